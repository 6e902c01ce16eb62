package local

import (
	"slices"

	"wattle/api"
	"wattle/bounds"
	"wattle/solve"
)

// Bound tells how many steps are enough.
func Bound(list []api.Atom) int {
	if Check(list) != nil {
		return 0
	}
	all, letters := groups(list), 1
	for _, g := range all {
		letters = bounds.Times(letters, g.most())
	}
	out := bounds.Plus(bounds.Times(4, letters), 1)
	if out == bounds.Most {
		return out // ahead of layer 7's Bounds, since there may be far too many conditions to ask it about
	}
	for _, g := range all {
		out = bounds.Plus(out, bounds.Times(g.solving(), 2))
	}
	return out
}

// most is how many rows there may be of a group.
func (g group) most() int {
	switch g.kind {
	case api.AtomType:
		return bounds.Times(len(g.names())+1, len(g.spaces())+1)
	case api.AtomAttr:
		out := 1
		spots, free := g.spots()
		for _, s := range spots {
			out = bounds.Times(out, vectors(len(s.atoms)+len(free)))
		}
		for range free {
			out = bounds.Times(out, vectors(len(free)))
		}
		return out
	}
	return 2
}

// vectors is how many rows there may be of some conditions at one place: without the attribute, and with it.
func vectors(size int) int { return bounds.Plus(1<<min(size, 62), 1) }

// solving is layer 7's Bounds of all places of an attribute's name together.
func (g group) solving() int {
	if g.kind != api.AtomAttr {
		return 0
	}
	out := 0
	spots, free := g.spots()
	for _, s := range spots {
		out = bounds.Plus(out, solve.Bound(g.conds(slices.Concat(s.atoms, free))))
	}
	for range free {
		out = bounds.Plus(out, solve.Bound(g.conds(free)))
	}
	return out
}
