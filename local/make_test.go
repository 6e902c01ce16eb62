package local_test

import (
	"slices"

	"wattle/api"
	"wattle/value"
)

type (
	atom = api.Atom
	node = api.Node
)

const (
	has, is, word, dash = api.OpHas, api.OpIs, api.OpWord, api.OpDash
	begin, end, part    = api.OpBegin, api.OpEnd, api.OpPart

	enough = 1 << 40
)

func typ(name string) atom { return atom{Kind: api.AtomType, Name: name} }

func attr(name string, op int, text string) atom {
	return atom{Kind: api.AtomAttr, Name: name, Cond: api.Cond{Op: op, Text: text}}
}

// alike gives an atom that takes great and small letters as one.
func alike(a atom) atom {
	a.Cond.Fold = true
	return a
}

func state(name string) atom { return atom{Kind: api.AtomState, Name: name} }

// within gives an atom that asks for a namespace.
func within(space string, a atom) atom {
	a.HasSpace, a.Space = true, space
	return a
}

func class(name string) atom { return within("", attr("class", word, name)) }

func list(some ...atom) []atom { return some }

func el(space, name string, attrs ...api.Attr) node {
	return node{Parent: -1, Kind: api.NodeElement, Space: space, Name: name, Attrs: attrs}
}

func in(n node, states ...string) node {
	n.States = states
	return n
}

// holds tells by the chapter's words whether an atom holds of an element.
func holds(a atom, n node) bool {
	inSpace := func(space string) bool { return !a.HasSpace || space == a.Space }
	if a.Kind == api.AtomType {
		return (a.Name == "" || a.Name == n.Name) && inSpace(n.Space)
	}
	if a.Kind == api.AtomState {
		return slices.Contains(n.States, a.Name)
	}
	for _, x := range n.Attrs {
		if a.Kind == api.AtomAttr && x.Name == a.Name && inSpace(x.Space) && value.Holds(a.Cond, x.Value) {
			return true
		}
	}
	return false
}

// told gives truths as a text.
func told(truths []bool) string {
	out := ""
	for _, truth := range truths {
		out += map[bool]string{true: "1", false: "0"}[truth]
	}
	return out
}

// isFault tells whether an error is a Fault of a kind at a place.
func isFault(err error, kind api.Errno, at int) bool {
	f, ok := err.(*api.Fault)
	return ok && f.Kind == kind && f.At == at
}

// same tells whether two lists of letters are one.
func same(a, b []api.Letter) bool { return slices.EqualFunc(a, b, sameLetter) }

func sameLetter(a, b api.Letter) bool {
	return slices.Equal(a.Holds, b.Holds) && a.Node.Parent == b.Node.Parent && a.Node.Kind == b.Node.Kind &&
		a.Node.Space == b.Node.Space && a.Node.Name == b.Node.Name && a.Node.Text == b.Node.Text &&
		slices.Equal(a.Node.Attrs, b.Node.Attrs) && slices.Equal(a.Node.States, b.Node.States)
}

// maker makes things by a fixed rule.
type maker struct{ n uint32 }

func (m *maker) pick(n int) int {
	m.n = m.n*1664525 + 1013904223
	return int(m.n>>8) % n
}

// one gives one of some things.
func one[T any](m *maker, some ...T) T { return some[m.pick(len(some))] }
