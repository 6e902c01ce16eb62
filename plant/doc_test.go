package plant_test

import (
	"testing"

	"wattle/api"
	"wattle/dom"
	"wattle/plant"
)

func down(n node) api.Move { return api.Move{Down: true, Node: n} }

func beside(n node) api.Move { return api.Move{Node: n} }

// first is a path's first move.
func first() api.Move { return beside(el(-1, "r")) }

// P17.1: paths that are right, whatever Parents their nodes have, and the Parents that these have in the documents.
func TestDoc(t *testing.T) {
	a := el(-1, "a")
	for i, x := range []struct {
		path    []api.Move
		parents []int
	}{
		{[]api.Move{beside(a)}, []int{-1}},
		{[]api.Move{beside(el(7, "a"))}, []int{-1}},
		{[]api.Move{beside(el(-7, "a")), down(el(1, "b"))}, []int{-1, 0}},
		{[]api.Move{beside(a), down(a), beside(a), beside(el(0, "a"))}, []int{-1, 0, 0, 0}},
		{[]api.Move{beside(a), down(a), down(a), down(a)}, []int{-1, 0, 1, 2}},
		{[]api.Move{beside(a), down(a), beside(a), down(a), beside(a), beside(a), down(a)}, []int{-1, 0, 0, 2, 2, 2, 5}},
		{[]api.Move{beside(in(with(a, "class", "id"), "hover")), down(node{Parent: 1 << 62, Kind: api.NodeElement, Space: "u", Name: "é", Attrs: []api.Attr{{Space: "v", Name: "t"}, {Name: "t"}}, States: []string{"link", "target"}})}, []int{-1, 0}},
	} {
		doc, err := plant.Doc(x.path)
		if err != nil || len(doc) != len(x.path) || !right(doc) {
			t.Fatalf("%d: %+v, %v", i, doc, err)
		}
		for k, m := range x.path {
			m.Node.Parent = x.parents[k]
			if !dom.Same(doc[k:k+1], []node{m.Node}) {
				t.Errorf("%d: %+v, not %+v", i, doc[k], m.Node)
			}
		}
	}
}

// P17.1: the first move that isn't right.
func TestWrongPaths(t *testing.T) {
	for _, path := range [][]api.Move{nil, {}} {
		if doc, err := plant.Doc(path); !isFault(err, api.ErrNone, 0) || doc != nil {
			t.Errorf("%v, %v", doc, err)
		}
	}
	a := el(-1, "a")
	twice := with(a, "t")
	twice.Attrs = append(twice.Attrs, api.Attr{Name: "t", Value: "w"})
	withText := a
	withText.Text = "t"
	wrong := []node{{}, el(-1, ""), el(-1, "\x00"), el(-1, "\xff"), {Parent: -1, Kind: api.NodeElement, Space: "\xff", Name: "a"}, twice, with(a, ""), {Parent: -1, Kind: api.NodeElement, Name: "a", Attrs: []api.Attr{{Name: "t", Value: "\x00"}}}, in(a, "hover", "hover"), in(a, "hovering"), in(a, ""), withText, text(-1), comment(-1), {Parent: -1, Name: "a"}, {Parent: -1, Kind: 4, Name: "a"}, {Parent: -1, Kind: -1, Name: "a"}}
	for i, n := range wrong {
		for k, path := range [][]api.Move{{beside(n)}, {first(), down(n)}, {first(), down(a), beside(n), down(n)}, {first(), down(a), beside(a), down(n), beside(el(-1, ""))}} {
			if doc, err := plant.Doc(path); !isFault(err, api.ErrForm, k) || doc != nil {
				t.Errorf("%d, %d: %v, %v", i, k, doc, err)
			}
		}
	}
	for i, x := range []struct {
		path []api.Move
		at   int
	}{
		{[]api.Move{down(a)}, 0}, {[]api.Move{down(a), down(a)}, 0}, {[]api.Move{down(a), beside(a)}, 0}, {[]api.Move{beside(a), beside(a)}, 1}, {[]api.Move{beside(a), beside(a), down(el(-1, ""))}, 1}, {[]api.Move{beside(a), beside(el(-1, ""))}, 1}, {[]api.Move{down(el(-1, "")), beside(a)}, 0}, {[]api.Move{beside(el(-1, "")), beside(a)}, 0},
	} {
		if doc, err := plant.Doc(x.path); !isFault(err, api.ErrForm, x.at) || doc != nil {
			t.Errorf("%d: %v, %v", i, doc, err)
		}
	}
}

// P17.2: how much there is in documents, also in those that aren't right.
func TestSize(t *testing.T) {
	for i, x := range []struct {
		doc  []node
		want int
	}{
		{nil, 0}, {[]node{}, 0}, {[]node{{}}, 1}, {[]node{el(-1, "a")}, 1}, {[]node{with(el(-1, "a"), "t")}, 2}, {[]node{in(el(-1, "a"), "hover")}, 2}, {[]node{in(with(el(-1, "a"), "t", "u", "v"), "hover", "focus"), text(0), comment(0), with(el(0, "b"), "t")}, 10}, {[]node{with(text(-1), "t", "t")}, 3},
	} {
		if got := plant.Size(x.doc); got != x.want {
			t.Errorf("%d: %d, not %d", i, got, x.want)
		}
	}
}

// family is a document with a comment ahead of it, and one behind.
func family() []node {
	return []node{comment(-1), el(-1, "r"), el(1, "a"), text(2), el(1, "b"), el(2, "c"), comment(5), el(1, "d"), text(1), comment(-1), el(4, "e")}
}

// P17.2: a node is dropped, the Parents behind it are one less, and another one is found again.
func TestDrop(t *testing.T) {
	doc := family()
	check(t, doc)
	for n, may := range []bool{true, false, false, true, false, false, true, true, true, true, true} {
		for other := range doc {
			out, at, err := plant.Drop(doc, n, other)
			if n == other || !may {
				kind, place := api.ErrArg, n
				if n == other {
					kind, place = api.ErrRange, 0
				}
				if !isFault(err, kind, place) || out != nil || at != 0 {
					t.Errorf("%d, %d: %v, %d, %v", n, other, out, at, err)
				}
				continue
			}
			want, wantAt := dropped(doc, n, other)
			if err != nil || at != wantAt || !dom.Same(out, want) || !right(out) || at >= len(out) {
				t.Errorf("%d, %d: %+v, %d, %v", n, other, out, at, err)
			}
		}
	}
	out, at, err := plant.Drop(doc, 3, 10)
	if want := []node{comment(-1), el(-1, "r"), el(1, "a"), el(1, "b"), el(2, "c"), comment(4), el(1, "d"), text(1), comment(-1), el(3, "e")}; err != nil || at != 9 || !dom.Same(out, want) {
		t.Errorf("%+v, %d, %v", out, at, err)
	}
}

// P17.2: many documents, held against the chapter's words.
func TestDropByTheWords(t *testing.T) {
	drops := 0
	for seed := range uint32(2000) {
		m := &maker{seed}
		doc, _ := m.doc(1 + m.pick(9))
		check(t, doc)
		for n := range doc {
			for other := range doc {
				out, at, err := plant.Drop(doc, n, other)
				switch {
				case n == other:
					if !isFault(err, api.ErrRange, 0) {
						t.Fatal(doc, n, err)
					}
				case !mayDrop(doc, n):
					if !isFault(err, api.ErrArg, n) {
						t.Fatal(doc, n, err)
					}
				default:
					drops++
					if want, wantAt := dropped(doc, n, other); err != nil || at != wantAt || !dom.Same(out, want) || !right(out) {
						t.Fatalf("%+v, %d, %d: %+v, %d, %v", doc, n, other, out, at, err)
					}
				}
			}
		}
	}
	if drops < 10000 {
		t.Error(drops)
	}
}

// P17.2, P17.3: the errors, in their order.
func TestOrderOfErrors(t *testing.T) {
	doc := family()
	wrong := [][]node{nil, {comment(-1)}, {el(-1, "a"), el(-1, "b")}, {el(-1, "a"), text(-1)}, {el(-1, "")}, {el(0, "a")}, {el(-1, "a"), el(0, "b"), el(2, "c")}, {el(-1, "a"), text(0), el(1, "c")}}
	yes, no := func([]node, int) bool { return true }, func([]node, int) bool { return false }
	asked := func([]node, int) bool { t.Error("the test was asked"); return true }
	for i, doc := range wrong {
		for _, n := range []int{-1, 0, 1, 99} {
			if out, at, err := plant.Drop(doc, n, 1); !isFault(err, api.ErrForm, 0) || out != nil || at != 0 {
				t.Errorf("%d, %d: %v, %d, %v", i, n, out, at, err)
			}
			if out, at, err := plant.Thin(doc, n, asked); !isFault(err, api.ErrForm, 0) || out != nil || at != 0 {
				t.Errorf("%d, %d: %v, %d, %v", i, n, out, at, err)
			}
		}
	}
	far := []int{-1 << 63, -1, len(doc), len(doc) + 1, 1<<63 - 1}
	for _, n := range far {
		for _, k := range append(far, 0, 1, 2) {
			for _, x := range [][2]int{{n, k}, {k, n}} {
				if out, at, err := plant.Drop(doc, x[0], x[1]); !isFault(err, api.ErrRange, 0) || out != nil || at != 0 {
					t.Errorf("%v: %v, %d, %v", x, out, at, err)
				}
			}
		}
	}
	for _, n := range append(far, 0, 3, 6, 8, 9) {
		if out, at, err := plant.Thin(doc, n, asked); !isFault(err, api.ErrRange, 0) || out != nil || at != 0 {
			t.Errorf("%d: %v, %d, %v", n, out, at, err)
		}
	}
	for _, n := range []int{1, 2, 4, 5, 7, 10} {
		if out, at, err := plant.Thin(doc, n, no); !isFault(err, api.ErrArg, 0) || out != nil || at != 0 {
			t.Errorf("%d: %v, %d, %v", n, out, at, err)
		}
		if out, at, err := plant.Thin(doc, n, yes); err != nil || !right(out) || out[at].Name != doc[n].Name {
			t.Errorf("%d: %v, %d, %v", n, out, at, err)
		}
	}
}
