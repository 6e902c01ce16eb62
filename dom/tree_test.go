package dom_test

import (
	"math"
	"slices"
	"testing"

	"wattle/api"
	"wattle/dom"
)

// tree gives the tree of a right document.
func tree(t *testing.T, doc []node) *dom.Tree {
	t.Helper()
	d, err := dom.New(doc)
	if err != nil {
		t.Fatal(err)
	}
	return d
}

// outside are places that no document has.
var outside = []int{-1, -2, math.MinInt, math.MaxInt, 1 << 32, 1<<32 + 1, -1 << 32}

// found is what is told of a neighbour.
type found struct {
	n  int
	ok bool
}

func tell(n int, ok bool) found { return found{n, ok} }

// byWords tells of an element its parent, the elements of its row, and the one ahead of it there, by the chapter's words.
func byWords(doc []node, n int) (parent, ahead found, row []int) {
	if n < 0 || n >= len(doc) || doc[n].Kind != api.NodeElement {
		return
	}
	if doc[n].Parent != -1 {
		parent = found{doc[n].Parent, true}
	}
	for i := range n + 1 {
		if doc[i].Kind == api.NodeElement && doc[i].Parent == doc[n].Parent {
			row = append(row, i)
		}
	}
	if len(row) > 1 {
		ahead = found{row[len(row)-2], true}
	}
	return
}

// checkTree holds what a tree tells against the chapter's words.
func checkTree(t *testing.T, doc []node) {
	t.Helper()
	d := tree(t, doc)
	var elements []int
	for n, x := range doc {
		if x.Kind == api.NodeElement {
			elements = append(elements, n)
		}
	}
	if got := d.Elements(); !slices.Equal(got, elements) {
		t.Errorf("%v: Elements: %v", doc, got)
	}
	for n := -2; n < len(doc)+2; n++ {
		parent, ahead, row := byWords(doc, n)
		if got := tell(d.Parent(n)); got != parent {
			t.Errorf("%v: Parent(%d): %v", doc, n, got)
		}
		if got := tell(d.Ahead(n)); got != ahead {
			t.Errorf("%v: Ahead(%d): %v", doc, n, got)
		}
		if got := d.Row(n); !slices.Equal(got, row) {
			t.Errorf("%v: Row(%d): %v", doc, n, got)
		}
		checkNode(t, d, doc, n)
	}
}

// checkNode holds what a tree tells of one node against the document.
func checkNode(t *testing.T, d *dom.Tree, doc []node, n int) {
	t.Helper()
	var want node
	is := n >= 0 && n < len(doc)
	if is {
		want = doc[n]
	}
	if got, ok := d.Node(n); ok != is || !dom.Same([]node{got}, []node{want}) {
		t.Errorf("%v: Node(%d): %v, %v", doc, n, got, ok)
	}
	for _, space := range []string{"", "u", "class"} {
		for _, name := range []string{"", "class", "id", "x", "y", "u"} {
			i := slices.IndexFunc(want.Attrs, func(a api.Attr) bool { return a.Space == space && a.Name == name })
			value := ""
			if i >= 0 {
				value = want.Attrs[i].Value
			}
			if got, ok := d.Value(n, space, name); got != value || ok != (i >= 0) {
				t.Errorf("%v: Value(%d, %q, %q): %q, %v", doc, n, space, name, got, ok)
			}
		}
	}
	for _, name := range append([]string{"", "x", "Hover", "a"}, states...) {
		if got := d.State(n, name); got != slices.Contains(want.States, name) {
			t.Errorf("%v: State(%d, %q): %v", doc, n, name, got)
		}
	}
}

// P11.2: many documents, held against the chapter's words.
func TestTreesByWords(t *testing.T) {
	times := 0
	for seed := range uint32(40000) {
		m := maker{seed}
		if doc := m.doc(10); dom.Check(doc) == nil {
			times++
			checkTree(t, doc)
		}
	}
	if times < 1000 {
		t.Errorf("just %d trees", times)
	}
}

// P11.2: all documents of up to six nodes, by their parents and kinds.
func TestAllShapes(t *testing.T) {
	var grow func(doc []node)
	grow = func(doc []node) {
		if dom.Check(doc) == nil {
			checkTree(t, doc)
		}
		if len(doc) == 6 {
			return
		}
		for parent := range len(doc) {
			if doc[parent].Kind == api.NodeElement {
				grow(append(slices.Clip(doc), el(parent, "a")))
				grow(append(slices.Clip(doc), text(parent, "a")))
			}
		}
		if len(doc) < 2 {
			grow(append(slices.Clip(doc), el(-1, "a")))
			grow(append(slices.Clip(doc), comment(-1, "a")))
		}
	}
	grow(nil)
}

// P1, P11.2: nothing is told of places that are no element's.
func TestNoElement(t *testing.T) {
	d := tree(t, []node{comment(-1, "x"), in(with(el(-1, "a"), api.Attr{Name: "x"}), "hover"), el(1, "b"), text(1, "y"), comment(1, "z"), el(1, "c")})
	for _, n := range append([]int{0, 3, 4, 6, 7}, outside...) {
		value, ok := d.Value(n, "", "x")
		if tell(d.Parent(n)) != (found{}) || tell(d.Ahead(n)) != (found{}) || len(d.Row(n)) > 0 || value != "" || ok || d.State(n, "hover") {
			t.Errorf("%d", n)
		}
	}
	for _, n := range append([]int{6, 7}, outside...) {
		if got, ok := d.Node(n); ok || !dom.Same([]node{got}, []node{{}}) {
			t.Errorf("%d: %v", n, got)
		}
	}
	for n, want := range map[int]string{0: "x", 3: "y", 4: "z"} {
		if got, ok := d.Node(n); !ok || got.Text != want {
			t.Errorf("%d: %v, %v", n, got, ok)
		}
	}
}

// P11.2: the row of a document's chapter, and of elements between texts, comments and others' elements.
func TestRows(t *testing.T) {
	d := tree(t, []node{el(-1, "r"), el(0, "a"), text(0, "x"), el(1, "b"), comment(-1, "y"), el(0, "c"), el(1, "d"), el(0, "e")})
	for n, want := range map[int][]int{0: {0}, 1: {1}, 3: {3}, 5: {1, 5}, 6: {3, 6}, 7: {1, 5, 7}} {
		if got := d.Row(n); !slices.Equal(got, want) {
			t.Errorf("%d: %v", n, got)
		}
	}
	for n, want := range map[int]found{0: {}, 1: {}, 3: {}, 5: {1, true}, 6: {3, true}, 7: {5, true}} {
		if got := tell(d.Ahead(n)); got != want {
			t.Errorf("%d: %v", n, got)
		}
	}
}

// P11.2: an attribute is told by both its names; one whose value is empty is there.
func TestValues(t *testing.T) {
	d := tree(t, []node{with(el(-1, "a"), api.Attr{Space: "u", Name: "x", Value: "1"}, api.Attr{Name: "x", Value: "2"}, api.Attr{Name: "y"}, api.Attr{Space: "x", Name: "u", Value: "3"})})
	for _, c := range []struct {
		space, name, want string
		ok                bool
	}{{"u", "x", "1", true}, {"", "x", "2", true}, {"", "y", "", true}, {"x", "u", "3", true}, {"u", "y", "", false}, {"", "u", "", false}, {"", "", "", false}, {"u", "X", "", false}} {
		if got, ok := d.Value(0, c.space, c.name); got != c.want || ok != c.ok {
			t.Errorf("%q, %q: %q, %v", c.space, c.name, got, ok)
		}
	}
}

// P11.3: documents are one, if all is that they have.
func TestSame(t *testing.T) {
	full := node{Parent: 1, Kind: 2, Space: "s", Name: "n", Attrs: []api.Attr{{Space: "u", Name: "x", Value: "v"}, {Name: "y"}}, States: []string{"hover", "focus"}, Text: "t"}
	change := func(f func(n *node)) node {
		n := full
		n.Attrs, n.States = slices.Clone(n.Attrs), slices.Clone(n.States)
		f(&n)
		return n
	}
	some := []node{
		full, {}, change(func(n *node) { n.Parent = 2 }), change(func(n *node) { n.Parent = 1 + 1<<32 }), change(func(n *node) { n.Kind = 1 }), change(func(n *node) { n.Space = "" }), change(func(n *node) { n.Name = "S" }), change(func(n *node) { n.Text = "" }),
		change(func(n *node) { n.Attrs = nil }), change(func(n *node) { n.Attrs = n.Attrs[:1] }), change(func(n *node) { n.Attrs[0].Space = "" }), change(func(n *node) { n.Attrs[0].Name = "" }), change(func(n *node) { n.Attrs[0].Value = "" }), change(func(n *node) { n.Attrs[1].Value = "v" }), change(func(n *node) { slices.Reverse(n.Attrs) }),
		change(func(n *node) { n.States = nil }), change(func(n *node) { n.States = n.States[1:] }), change(func(n *node) { slices.Reverse(n.States) }), change(func(n *node) { n.States[1] = "" }),
	}
	var docs [][]node
	for _, n := range some {
		docs = append(docs, []node{n}, []node{full, n}, []node{n, full, full})
	}
	docs = append(docs, nil)
	for i, a := range docs {
		for k, b := range docs {
			want := i == k || i == 1 && k == 1
			if got := dom.Same(a, b); got != want {
				t.Errorf("%v, %v: %v", a, b, got)
			}
		}
	}
	if !dom.Same(nil, []node{}) || !dom.Same([]node{{Attrs: []api.Attr{}, States: []string{}}}, []node{{}}) || !dom.Same([]node{change(func(*node) {})}, []node{full}) {
		t.Error("lists without elements")
	}
}

// P1, P2: great documents, deep ones and wide ones: what is asked of their last elements.
func TestGreatTrees(t *testing.T) {
	const many = 1 << 16
	wide, deep := []node{el(-1, "r")}, []node{el(-1, "r")}
	for i := range many {
		wide, deep = append(wide, el(0, "a")), append(deep, el(i, "a"))
	}
	w, d := tree(t, wide), tree(t, deep)
	if row := w.Row(many); len(row) != many || row[0] != 1 || row[many-1] != many {
		t.Errorf("%d", len(row))
	}
	if row := d.Row(many); !slices.Equal(row, []int{many}) || tell(d.Parent(many)) != (found{many - 1, true}) || tell(w.Ahead(many)) != (found{many - 1, true}) {
		t.Errorf("%v", row)
	}
	if !dom.Same(wide, slices.Clone(wide)) || dom.Same(wide, deep) {
		t.Error("Same")
	}
}
