package plant_test

import (
	"slices"
	"testing"

	"wattle/api"
	"wattle/dom"
)

type node = api.Node

func el(parent int, name string) node {
	return node{Parent: parent, Kind: api.NodeElement, Name: name}
}

func text(parent int) node { return node{Parent: parent, Kind: api.NodeText, Text: "t"} }

func comment(parent int) node { return node{Parent: parent, Kind: api.NodeComment, Text: "c"} }

// with gives an element with attributes of some names.
func with(n node, names ...string) node {
	for _, name := range names {
		n.Attrs = append(n.Attrs, api.Attr{Name: name, Value: "v"})
	}
	return n
}

func in(n node, states ...string) node {
	n.States = states
	return n
}

func isFault(err error, kind api.Errno, at int) bool {
	f, ok := err.(*api.Fault)
	if kind == 0 {
		return err == nil
	}
	return ok && f.Kind == kind && f.At == at
}

// right tells whether a document is right.
func right(doc []node) bool { return dom.Check(doc) == nil }

// smaller goes through all that comes of a document by dropping one node but one element, or by leaving out one attribute, or one state.
func smaller(doc []node, n int, look func(doc []node, n int)) {
	for i, x := range doc {
		if i != n && mayDrop(doc, i) {
			less, at := dropped(doc, i, n)
			look(less, at)
		}
		for k := range x.Attrs {
			less := slices.Clone(doc)
			less[i].Attrs = slices.Delete(slices.Clone(x.Attrs), k, k+1)
			look(less, n)
		}
		for k := range x.States {
			less := slices.Clone(doc)
			less[i].States = slices.Delete(slices.Clone(x.States), k, k+1)
			look(less, n)
		}
	}
}

// mayDrop tells by the chapter's words whether a right document's node may be dropped.
func mayDrop(doc []node, n int) bool {
	for _, x := range doc {
		if x.Parent == n {
			return false
		}
	}
	return doc[n].Kind != api.NodeElement || doc[n].Parent != -1
}

// dropped gives by the chapter's words a document without a node, and the place of another one in it.
func dropped(doc []node, n, other int) (out []node, at int) {
	for i, x := range doc {
		if x.Parent > n {
			x.Parent--
		}
		if i == other {
			at = len(out)
		}
		if i != n {
			out = append(out, x)
		}
	}
	return out, at
}

// maker makes documents and paths by numbers that follow from a seed.
type maker struct{ seed uint32 }

func (m *maker) pick(n int) int {
	m.seed = m.seed*1664525 + 1013904223
	return int(m.seed>>8) % n
}

func one[T any](m *maker, some ...T) T { return some[m.pick(len(some))] }

func (m *maker) element(parent int, name string) node {
	n := el(parent, name)
	for _, name := range []string{"class", "id", "t"} {
		if m.pick(3) == 0 {
			n = with(n, name)
		}
	}
	for _, state := range []string{"hover", "focus"} {
		if m.pick(3) == 0 {
			n.States = append(n.States, state)
		}
	}
	return n
}

// doc gives a right document of so many nodes, and an element of it. The elements' names are their places' letters.
func (m *maker) doc(size int) ([]node, int) {
	var doc []node
	var elements []int
	for i := range size {
		if len(elements) == 0 && (i == size-1 || m.pick(4) > 0) {
			doc, elements = append(doc, m.element(-1, string(rune('a'+i)))), append(elements, i)
			continue
		}
		parent := one(m, append([]int{-1}, elements...)...)
		switch kind := m.pick(8); {
		case kind == 0 || parent == -1:
			doc = append(doc, comment(parent))
		case kind == 1:
			doc = append(doc, text(parent))
		default:
			doc, elements = append(doc, m.element(parent, string(rune('a'+i)))), append(elements, i)
		}
	}
	return doc, one(m, elements...)
}

func check(t *testing.T, doc []node) {
	t.Helper()
	if err := dom.Check(doc); err != nil {
		t.Fatalf("%+v: %v", doc, err)
	}
}
