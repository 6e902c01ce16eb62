package flat_test

import (
	"slices"
	"testing"

	"wattle/anb"
	"wattle/api"
	"wattle/dom"
	"wattle/local"
	"wattle/match"
	"wattle/sel"
)

// asked is a plan that is asked of a document's elements, each with all that stands above and ahead.
type asked struct {
	p    api.Plan
	tree *dom.Tree
}

// fits tells whether the first steps of a row fit, the last of them an element.
func (a asked) fits(steps []api.Step, n int) bool {
	last := steps[len(steps)-1]
	for _, x := range last.Terms {
		if !a.holds(x, n) {
			return false
		}
	}
	way, far := a.tree.Parent, last.Comb == api.CombBelow || last.Comb == api.CombLater
	if last.Comb == api.CombNext || last.Comb == api.CombLater {
		way = a.tree.Ahead
	}
	if len(steps) == 1 {
		return true
	}
	for m, ok := way(n); ok; m, ok = way(m) {
		if a.fits(steps[:len(steps)-1], m) {
			return true
		}
		if !far {
			break
		}
	}
	return false
}

func (a asked) row(number, n int) bool { return a.fits(a.p.Rows[number].Steps, n) }

func (a asked) holds(x api.Term, n int) bool {
	some := func(y api.Term) bool { return a.holds(y, n) }
	switch x.Kind {
	case api.TermAtom:
		node, _ := a.tree.Node(n)
		return local.Holds(a.p.Atoms[x.N], node)
	case api.TermRow:
		return a.row(x.N, n)
	case api.TermNot:
		return !some(x.Terms[0])
	case api.TermAny:
		return slices.ContainsFunc(x.Terms, some)
	case api.TermRoot:
		_, ok := a.tree.Parent(n)
		return !ok
	case api.TermCount:
		return a.counts(a.p.Counters[x.N], n)
	}
	return x.Kind == api.TermTrue
}

// counts tells whether a counter counts an element, and has the number that it comes to.
func (a asked) counts(c api.Counter, n int) bool {
	isCounted := func(m int) bool {
		return len(c.Rows) == 0 || slices.ContainsFunc(c.Rows, func(number int) bool { return a.row(number, m) })
	}
	sum := 0
	for _, m := range a.tree.Row(n) {
		if isCounted(m) {
			sum++
		}
	}
	return isCounted(n) && anb.Has(c.AB.A, c.AB.B, sum)
}

// doc gives a right document of elements like those that the lists ask for.
func (m *maker) doc(size int) []api.Node {
	var doc []api.Node
	for n := range size {
		x := api.Node{Parent: -1, Kind: api.NodeElement, Space: m.text("", "", "u", "v"), Name: m.text("a", "b", "area")}
		if n > 0 {
			x.Parent = m.pick(n)
		}
		for _, name := range []string{"class", "id", "href", "t"} {
			for _, space := range []string{"", "u"} {
				if m.pick(4) == 0 {
					x.Attrs = append(x.Attrs, api.Attr{Space: space, Name: name, Value: m.text("", "x", "y", "x y", "x-y", "X")})
				}
			}
		}
		if m.pick(3) == 0 {
			x.States = []string{m.text("hover", "link")}
		}
		doc = append(doc, x)
	}
	return doc
}

// P14.1: of all elements of many documents a row's last step fits those that its selector selects.
func TestPlansSelectTheSame(t *testing.T) {
	selected := 0
	for seed := range uint32(6000) {
		m := maker{seed}
		names, lists := m.names(), m.lists(2)
		tree, err := dom.New(m.doc(1 + m.pick(8)))
		if err != nil {
			t.Fatal(err)
		}
		a := asked{planOf(t, names, lists...), tree}
		for i, l := range lists {
			for k, c := range l {
				number := a.p.Lists[i][k]
				for _, n := range tree.Elements() {
					want := match.Complex(tree, c, names, api.Subject{Node: n, Pseudo: sel.Pseudo(c)})
					if got := a.row(number, n); got != want || a.p.Rows[number].Pseudo != sel.Pseudo(c) {
						t.Fatalf("%+v, %d, %d, %d: %t: %s", lists, i, k, n, got, told(a.p))
					}
					if want {
						selected++
					}
				}
			}
		}
	}
	if selected < 5000 {
		t.Errorf("just %d elements are selected", selected)
	}
}
