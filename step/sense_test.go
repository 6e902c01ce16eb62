package step_test

import (
	"testing"

	"wattle/api"
	"wattle/dom"
	"wattle/flat"
	"wattle/local"
	"wattle/match"
	"wattle/nth"
	"wattle/sel"
	"wattle/step"
)

// doc gives a right document of elements like those that lists ask for, and of texts.
func (m *maker) doc(size int) []api.Node {
	doc := []api.Node{m.element(-1)}
	elements := []int{0}
	for n := 1; n < size; n++ {
		parent := elements[m.pick(len(elements))]
		if m.pick(6) == 0 {
			doc = append(doc, api.Node{Parent: parent, Kind: api.NodeText, Text: "t"})
			continue
		}
		doc = append(doc, m.element(parent))
		elements = append(elements, n)
	}
	return doc
}

func (m *maker) element(parent int) api.Node {
	x := api.Node{Parent: parent, Kind: api.NodeElement, Space: m.text("", "", "u", "v"), Name: m.text("a", "b", "area")}
	for _, name := range []string{"class", "id", "href", "t"} {
		for _, space := range []string{"", "u"} {
			if m.pick(3) == 0 {
				x.Attrs = append(x.Attrs, api.Attr{Space: space, Name: name, Value: m.text("x", "y", "x y", "x-y")})
			}
		}
	}
	if m.pick(3) == 0 {
		x.States = []string{m.text("hover", "link")}
	}
	return x
}

// walk is a document whose elements are gone through, each with its context and the truths of the steps.
type walk struct {
	p        api.Plan
	tree     *dom.Tree
	contexts map[int]api.Context
	fits     map[int][]bool
}

func newWalk(p api.Plan, tree *dom.Tree) walk {
	w := walk{p, tree, map[int]api.Context{}, map[int][]bool{}}
	for _, n := range tree.Elements() {
		c := step.Start(p)
		if parent, ok := tree.Parent(n); ok {
			c = step.Down(p, w.contexts[parent], w.fits[parent])
		}
		if ahead, ok := tree.Ahead(n); ok {
			c = step.Next(p, w.contexts[ahead], w.fits[ahead])
		}
		node, _ := tree.Node(n)
		var holds []bool
		for _, a := range p.Atoms {
			holds = append(holds, local.Holds(a, node))
		}
		w.contexts[n], w.fits[n] = c, step.Truths(p, c, holds)
	}
	return w
}

// context gives an element's context by what it means, of the truths that there are of all others.
func (w walk) context(n int) api.Context {
	c := start(w.p)
	parent, ok := w.tree.Parent(n)
	c.Root = !ok
	heads, rounds := flat.Spans(w.p)
	for i, comb := range flat.Kept(w.p) {
		for m, some := parent, ok; some && comb == api.CombBelow; m, some = w.tree.Parent(m) {
			c.Up[i] = c.Up[i] || w.fits[m][i]
		}
		c.Up[i] = c.Up[i] || comb == api.CombChild && ok && w.fits[parent][i]
		for _, m := range w.ahead(n) {
			c.Left[i] = c.Left[i] || comb == api.CombLater && w.fits[m][i]
		}
		if ahead, some := w.tree.Ahead(n); some && comb == api.CombNext {
			c.Left[i] = w.fits[ahead][i]
		}
	}
	for i := range w.p.Counters {
		for _, m := range w.ahead(n) {
			if counts(w.p, i, has(w.fits[m])) {
				c.Counts[i]++
			}
		}
		c.Counts[i] = nth.Fold(heads[i], rounds[i], c.Counts[i])
	}
	return c
}

// ahead gives the elements ahead of one, beneath the same parent.
func (w walk) ahead(n int) (out []int) {
	for m, ok := w.tree.Ahead(n); ok; m, ok = w.tree.Ahead(m) {
		out = append(out, m)
	}
	return out
}

// checkWalk tells of each element whether its context is what it means, and whether the rows of lists select what their selectors do.
func checkWalk(t *testing.T, names api.Names, lists [][]api.Complex, doc []api.Node) (selected int) {
	t.Helper()
	tree, err := dom.New(doc)
	if err != nil {
		t.Fatal(err)
	}
	p := planOf(t, names, lists...)
	w := newWalk(p, tree)
	for _, n := range tree.Elements() {
		if got, want := w.contexts[n], w.context(n); !same(got, want) {
			t.Fatalf("%+v, %+v, %d: %s, not %s", lists, doc, n, toldContext(got), toldContext(want))
		}
		rows := step.Selected(p, w.fits[n])
		for i, l := range lists {
			for k, c := range l {
				got, want := rows[p.Lists[i][k]], match.Complex(tree, c, names, api.Subject{Node: n, Pseudo: sel.Pseudo(c)})
				if got != want {
					t.Fatalf("%+v, %+v, %d, %d, %d: %t", lists, doc, i, k, n, got)
				}
				if want {
					selected++
				}
			}
		}
	}
	return selected
}

// P15.3, P15.2: of all elements of many documents, from the first one on by Down and Next, the rows select what their selectors do, and the contexts are what they mean.
func TestDocuments(t *testing.T) {
	selected := 0
	for seed := range uint32(8000) {
		m := maker{seed}
		selected += checkWalk(t, m.names(), m.lists(2), m.doc(1+m.pick(12)))
	}
	if selected < 10000 {
		t.Errorf("just %d elements are selected", selected)
	}
}

// P15.3: many elements beneath one parent, whose numbers come round more than once.
func TestRounds(t *testing.T) {
	selected := 0
	for seed := range uint32(300) {
		m := maker{seed}
		list := []api.Complex{}
		for range 3 {
			s := simple{Kind: api.SelNth, AB: api.AB{A: m.pick(13) - 6, B: m.pick(21) - 10}}
			if m.pick(2) == 0 {
				s.Of = m.list(1, false)
			}
			list = append(list, api.Complex{List: []api.Compound{{List: m.compound(0)}, {Comb: api.CombLater, List: []simple{s}}}}, api.Complex{List: []api.Compound{{List: []simple{s}}}})
		}
		doc := []api.Node{m.element(-1)}
		for range 60 {
			doc = append(doc, m.element(m.pick(2)*m.pick(len(doc))))
		}
		selected += checkWalk(t, m.names(), [][]api.Complex{list}, doc)
	}
	if selected < 3000 {
		t.Errorf("just %d elements are selected", selected)
	}
}
