package sel

import (
	"iter"
	"slices"
	"strings"

	"wattle/api"
)

// simples goes through the simple selectors of some selectors, but not through those within these.
func simples(list ...api.Complex) iter.Seq[api.Simple] {
	return func(yield func(api.Simple) bool) {
		for _, c := range list {
			for _, part := range c.List {
				for _, s := range part.List {
					if !yield(s) {
						return
					}
				}
			}
		}
	}
}

// deeper tells whether a list is deeper than most. It looks no further down than it must, so that it ends soon, however much there is beneath.
func deeper(list []api.Complex, most int) bool {
	if most < 1 {
		return true
	}
	for s := range simples(list...) {
		if len(s.Of) > 0 && deeper(s.Of, most-1) {
			return true
		}
	}
	return false
}

func sameComplex(a, b api.Complex) bool { return slices.EqualFunc(a.List, b.List, sameCompound) }

func sameCompound(a, b api.Compound) bool {
	return a.Comb == b.Comb && slices.EqualFunc(a.List, b.List, sameSimple)
}

func sameSimple(a, b api.Simple) bool {
	return a.Kind == b.Kind && a.NS == b.NS && a.Prefix == b.Prefix && a.Name == b.Name &&
		a.Cond == b.Cond && a.Mark == b.Mark && a.AB == b.AB && Same(a.Of, b.Of)
}

func copyComplex(c api.Complex) api.Complex {
	return api.Complex{List: copied(c.List, copyCompound)}
}

func copyCompound(c api.Compound) api.Compound {
	return api.Compound{Comb: c.Comb, List: copied(c.List, copySimple)}
}

func copySimple(s api.Simple) api.Simple {
	s.Prefix, s.Name, s.Cond.Text = strings.Clone(s.Prefix), strings.Clone(s.Name), strings.Clone(s.Cond.Text)
	s.Of = Copy(s.Of)
	return s
}

// copied gives a list, each part of which a function has copied, without any spare room.
func copied[T any](list []T, one func(T) T) []T {
	out := make([]T, len(list))
	for i, x := range list {
		out[i] = one(x)
	}
	return out
}
