package reach_test

import (
	"slices"
	"testing"

	"wattle/api"
	"wattle/dom"
	"wattle/flat"
	"wattle/match"
	"wattle/parse"
	"wattle/sel"
)

// enough is a budget for all small plans.
const enough = 1 << 22

// asked is lists of selectors, and the plan that they are made.
type asked struct {
	names api.Names
	lists [][]api.Complex
	plan  api.Plan
}

// ask gives lists that are told as texts, in namespaces of which u and v have prefixes.
func ask(t *testing.T, texts ...string) asked {
	t.Helper()
	names := api.Names{Prefixes: []string{"u", "v"}, Spaces: []string{"of u", "of v"}}
	var lists [][]api.Complex
	for _, s := range texts {
		list, err := parse.Selectors([]byte(s), names)
		if err != nil {
			t.Fatal(s, err)
		}
		lists = append(lists, list)
	}
	return askOf(t, names, lists...)
}

func askOf(t *testing.T, names api.Names, lists ...[]api.Complex) asked {
	t.Helper()
	p, err := flat.Make(lists, names)
	if err != nil {
		t.Fatalf("%+v: %v", lists, err)
	}
	return asked{names, lists, p}
}

// row tells by layer 12 whether a row of the lists selects an element, or its pseudo-element. A number that is no such row's doesn't.
func (a asked) row(tree *dom.Tree, number, n int) bool {
	for i, list := range a.plan.Lists {
		if k := slices.Index(list, number); k >= 0 {
			c := a.lists[i][k]
			return match.Complex(tree, c, a.names, api.Subject{Node: n, Pseudo: sel.Pseudo(c)})
		}
	}
	return false
}

// wanted gives by the chapter's words the place of the first want that wants an element; -1, if none does.
func (a asked) wanted(tree *dom.Tree, wants []api.Want, n int) int {
	return slices.IndexFunc(wants, func(w api.Want) bool {
		for _, rows := range w.All {
			if !slices.ContainsFunc(rows, func(row int) bool { return a.row(tree, row, n) }) {
				return false
			}
		}
		return !slices.ContainsFunc(w.None, func(row int) bool { return a.row(tree, row, n) })
	})
}

// docOf gives the document of a path.
func docOf(path []api.Move) (doc []api.Node) {
	for i, m := range path {
		n := m.Node
		switch {
		case i > 0 && m.Down:
			n.Parent = i - 1
		case i > 0:
			n.Parent = doc[i-1].Parent
		}
		doc = append(doc, n)
	}
	return doc
}

func treeOf(t *testing.T, doc []api.Node) *dom.Tree {
	t.Helper()
	tree, err := dom.New(doc)
	if err != nil {
		t.Fatalf("%+v: %v", doc, err)
	}
	return tree
}

// same tells whether two answers are one.
func same(a, b api.Found) bool {
	if a.OK != b.OK || a.Want != b.Want || len(a.Path) != len(b.Path) {
		return false
	}
	for i, m := range a.Path {
		if m.Down != b.Path[i].Down || !dom.Same([]api.Node{m.Node}, []api.Node{b.Path[i].Node}) {
			return false
		}
	}
	return true
}

func isZero(f api.Found) bool { return same(f, api.Found{}) }

// sameWants tells whether two lists of wants are one.
func sameWants(a, b []api.Want) bool {
	return slices.EqualFunc(a, b, func(x, y api.Want) bool {
		return x.Pseudo == y.Pseudo && slices.EqualFunc(x.All, y.All, slices.Equal) && slices.Equal(x.None, y.None)
	})
}

// maker makes lists and documents by numbers that follow from a seed.
type maker struct{ seed uint32 }

func (m *maker) pick(n int) int {
	m.seed = m.seed*1664525 + 1013904223
	return int(m.seed>>8) % n
}

func one[T any](m *maker, some ...T) T { return some[m.pick(len(some))] }

// lists gives some right lists that ask for nothing but elements a, and those with the class x.
func (m *maker) lists(many int) (out [][]api.Complex) {
	for range many {
		out = append(out, m.list(m.pick(3)*m.pick(2), true))
	}
	return out
}

// list gives a right list, by itself or within another selector.
func (m *maker) list(depth int, alone bool) (out []api.Complex) {
	for range one(m, 1, 1, 2) {
		c := api.Complex{List: []api.Compound{{List: m.compound(depth)}}}
		for range one(m, 0, 0, 0, 1, 1, 2) {
			c.List = append(c.List, api.Compound{Comb: 1 + m.pick(4), List: m.compound(depth)})
		}
		if alone && m.pick(5) == 0 {
			last := &c.List[len(c.List)-1]
			last.List = append(last.List, api.Simple{Kind: api.SelPseudo, Name: one(m, "before", "after")})
		}
		out = append(out, c)
	}
	return out
}

func (m *maker) compound(depth int) (out []api.Simple) {
	if m.pick(2) == 0 {
		out = append(out, one(m, api.Simple{Kind: api.SelAny}, api.Simple{Kind: api.SelType, Name: "a"}))
	}
	for len(out) == 0 || m.pick(5) == 0 {
		out = append(out, m.simple(depth))
	}
	return out
}

func (m *maker) simple(depth int) api.Simple {
	kind := one(m, api.SelClass, api.SelClass, api.SelRoot, api.SelNth, api.SelNth, api.SelIs, api.SelWhere, api.SelNot, api.SelNot)
	s := api.Simple{Kind: kind}
	switch kind {
	case api.SelNth:
		s.AB = api.AB{A: m.pick(5) - 2, B: m.pick(5) - 1}
		if depth > 0 && m.pick(2) == 0 {
			s.Of = m.list(depth-1, false)
		}
	case api.SelIs, api.SelWhere, api.SelNot:
		if depth == 0 {
			return api.Simple{Kind: api.SelClass, Name: "x"}
		}
		s.Of = m.list(depth-1, false)
	case api.SelClass:
		s.Name = "x"
	}
	return s
}

// wants gives what wants elements by rows of a plan's lists, and by numbers that are no row's.
func (m *maker) wants(p api.Plan) (out []api.Want) {
	all := slices.Concat(p.Lists...)
	row := func() int { return one(m, append(all[:len(all):len(all)], -1, len(p.Rows))...) }
	for range m.pick(4) {
		w := api.Want{}
		for range one(m, 1, 1, 1, 2, 0) {
			w.All = append(w.All, []int{row(), row(), row()}[:m.pick(4)])
		}
		w.None = []int{row(), row(), row()}[:m.pick(4)]
		out = append(out, w)
	}
	return out
}

// kinds are the elements that such lists tell apart.
func kinds() (out []api.Node) {
	for _, name := range []string{"a", "b"} {
		for _, attrs := range [][]api.Attr{nil, {{Name: "class", Value: "x"}}} {
			out = append(out, api.Node{Parent: -1, Kind: api.NodeElement, Name: name, Attrs: attrs})
		}
	}
	return out
}

// doc gives a right document of these elements, and of texts.
func (m *maker) doc(size int) []api.Node {
	doc, elements := []api.Node{one(m, kinds()...)}, []int{0}
	for n := 1; n < size; n++ {
		x := one(m, kinds()...)
		if m.pick(6) == 0 {
			x = api.Node{Kind: api.NodeText, Text: "t"}
		} else {
			elements = append(elements, n)
		}
		x.Parent = elements[m.pick(len(elements))]
		if x.Parent == n {
			x.Parent = elements[0]
		}
		doc = append(doc, x)
	}
	return doc
}
