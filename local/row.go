package local

import (
	"slices"
	"strings"

	"wattle/api"
)

// The signs of a row's truths.
const (
	no  = '0'
	yes = '1'
)

// row is which of a group's atoms hold, told by signs, and what an element has of which they do.
type row struct {
	truths string
	node   api.Node
	free   []string // values of attributes in namespaces of their own, of which no atom asks for one
}

func noTruths(size int) string { return strings.Repeat(string(no), size) }

// family is rows of one group, none of them twice; in the first one nothing holds.
type family struct {
	rows []row
	seen map[string]struct{} // the rows' truths
}

func newFamily(size int) *family {
	none := noTruths(size)
	return &family{rows: []row{{truths: none}}, seen: map[string]struct{}{none: {}}}
}

// piece is one more attribute, and which of the group's atoms hold of it.
type piece struct {
	atoms []int
	attr  api.Attr
	free  bool // its namespace is one that no atom asks for
}

// has tells whether there is a row in which just a piece's atoms hold.
func (f *family) has(p piece) bool {
	_, ok := f.seen[string(p.with(f.rows[0]))]
	return ok
}

// extend adds what comes of the first rows with a piece, if there are steps enough.
func (f *family) extend(m *meter, first int, p piece) bool {
	if !m.spend(first) {
		return false
	}
	for _, r := range f.rows[:first] {
		truths := p.with(r)
		if _, ok := f.seen[string(truths)]; ok {
			continue
		}
		r.truths = string(truths)
		f.seen[r.truths] = struct{}{}
		if p.free {
			r.free = append(slices.Clip(r.free), p.attr.Value)
		} else {
			r.node.Attrs = append(slices.Clip(r.node.Attrs), p.attr)
		}
		f.rows = append(f.rows, r)
	}
	return true
}

// with gives a row's truths with those of a piece.
func (p piece) with(r row) []byte {
	out := []byte(r.truths)
	for _, i := range p.atoms {
		out[i] = yes
	}
	return out
}
