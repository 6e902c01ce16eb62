package plant

import (
	"slices"
	"strings"

	"wattle/api"
)

// thinner takes away from a right document what isn't needed for a test. Its parts are numbered: of each node, in order, it itself, then its attributes, then its states. So a node's parts stand ahead of those of all beneath it.
type thinner struct {
	doc  []api.Node
	n    int // the element that stays
	test func(doc []api.Node, n int) bool
}

// thin takes away many parts at once where that is possible, so that fewer tests are needed. It ends when there is no single one that can go.
func (t *thinner) thin() {
	for many := Size(t.doc); many > 1; many /= 2 {
		t.pass(many)
	}
	for t.pass(1) {
	}
}

// pass tries to take away so many parts at once, from the last ones on: what is taken away changes no number of a part that is still to be tried.
func (t *thinner) pass(many int) (less bool) {
	for to := Size(t.doc); to > 0; to -= many {
		if t.try(max(0, to-many), to) {
			less = true
		}
	}
	return less
}

// try takes away the parts from one number on up to another one, if the test is true without them.
func (t *thinner) try(from, to int) bool {
	doc, n := t.cut(from, to)
	if Size(doc) == Size(t.doc) || !t.test(doc, n) {
		return false
	}
	t.doc, t.n = doc, n
	return true
}

// cut gives the document without the parts from one number on up to another one, but for the nodes that may not be dropped, and the place of the element that stays.
func (t *thinner) cut(from, to int) ([]api.Node, int) {
	doc, gone, needed := slices.Clone(t.doc), make([]bool, len(t.doc)), make([]bool, len(t.doc))
	needed[t.n] = true // and so what is above it, the element without a parent, too
	first := Size(doc)
	for i, n := range slices.Backward(doc) {
		first -= weight(n)
		if from <= first && first < to && !needed[i] {
			gone[i] = true
			continue
		}
		if n.Parent != none {
			needed[n.Parent] = true
		}
		attrs, states := first+1, first+1+len(n.Attrs)
		doc[i].Attrs = outside(n.Attrs, from-attrs, to-attrs)
		doc[i].States = outside(n.States, from-states, to-states)
	}
	return without(doc, t.n, gone)
}

// outside gives what of a list is outside of two places, which may be any numbers.
func outside[T any](list []T, from, to int) []T {
	from, to = max(0, from), min(len(list), to)
	if from >= to {
		return list
	}
	return slices.Concat(list[:from], list[to:])
}

// without gives a document without the nodes that are gone, and the place that one of the others has then.
func without(doc []api.Node, n int, gone []bool) (out []api.Node, at int) {
	places := make([]int, len(doc))
	for i, node := range doc {
		places[i] = len(out)
		if gone[i] {
			continue
		}
		if node.Parent != none {
			node.Parent = places[node.Parent]
		}
		out = append(out, node)
	}
	return out, places[n]
}

// copied gives a document that shares no memory with another one.
func copied(doc []api.Node) []api.Node {
	out := make([]api.Node, len(doc))
	for i, n := range doc {
		out[i] = copyNode(n)
	}
	return out
}

func copyNode(n api.Node) api.Node {
	n.Space, n.Name, n.Text = strings.Clone(n.Space), strings.Clone(n.Name), strings.Clone(n.Text)
	n.Attrs, n.States = slices.Clone(n.Attrs), slices.Clone(n.States)
	for i, a := range n.Attrs {
		n.Attrs[i] = api.Attr{Space: strings.Clone(a.Space), Name: strings.Clone(a.Name), Value: strings.Clone(a.Value)}
	}
	for i, s := range n.States {
		n.States[i] = strings.Clone(s)
	}
	return n
}
