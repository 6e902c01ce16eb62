package step

import (
	"slices"

	"wattle/anb"
	"wattle/api"
	"wattle/nth"
)

// deepest is how many terms may stand in one another: more than layer 14 makes. Whoever made a plan by hand may have put a term into itself.
const deepest = 8

// fitted is a plan, and which of its steps fit an element.
type fitted struct {
	plan   api.Plan
	truths []bool
}

// row tells whether a row's last step fits.
func (f *fitted) row(n int) bool {
	r := at(f.plan.Rows, n)
	return at(f.truths, r.First+len(r.Steps)-1)
}

// counts tells whether a counter counts the element.
func (f *fitted) counts(c api.Counter) bool {
	return len(c.Rows) == 0 || slices.ContainsFunc(c.Rows, f.row)
}

// element is an element that steps are asked of, one behind another: rows within others come ahead, so what is asked of them is known.
type element struct {
	fitted
	context api.Context
	holds   []bool // of the atoms
}

// follows tells whether the step ahead of the next one to be asked stands as its combinator needs.
func (e *element) follows(comb int) bool {
	ahead := len(e.truths) - 1
	switch comb {
	case api.CombBelow, api.CombChild:
		return at(e.context.Up, ahead)
	case api.CombNext, api.CombLater:
		return at(e.context.Left, ahead)
	}
	return false
}

// hold tells whether all of some terms hold.
func (e *element) hold(terms []api.Term) bool {
	for _, x := range terms {
		if !e.term(x, deepest) {
			return false
		}
	}
	return true
}

// term tells whether a term holds, in which no more than so many stand in one another.
func (e *element) term(x api.Term, deep int) bool {
	if deep == 0 {
		return false
	}
	switch x.Kind {
	case api.TermAtom:
		return at(e.holds, x.N)
	case api.TermRow:
		return e.row(x.N)
	case api.TermNot:
		return !e.term(at(x.Terms, 0), deep-1)
	case api.TermAny:
		return slices.ContainsFunc(x.Terms, func(y api.Term) bool { return e.term(y, deep-1) })
	case api.TermCount:
		return e.counted(x.N)
	case api.TermRoot:
		return e.context.Root
	}
	return x.Kind == api.TermTrue
}

// counted tells whether a counter counts the element, and comes to one of its numbers by that.
func (e *element) counted(n int) bool {
	if n < 0 || n >= len(e.plan.Counters) {
		return false
	}
	c := e.plan.Counters[n]
	return e.counts(c) && anb.Has(c.AB.A, c.AB.B, more(c, at(e.context.Counts, n)))
}

// more gives what stands for one more than a counter's number. The number is folded first, so that there is always one more, however great it is.
func more(c api.Counter, n int) int {
	head, round := nth.Span([]api.AB{c.AB})
	return nth.Fold(head, round, nth.Fold(head, round, n)+1)
}
