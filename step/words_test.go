package step_test

import (
	"math/big"
	"slices"
	"testing"

	"wattle/anb"
	"wattle/api"
	"wattle/flat"
	"wattle/step"
)

// words asks a plan by the chapter's words: each step by itself, whatever it needs looked for anew.
type words struct {
	p       api.Plan
	context api.Context
	has     func(atom int) bool
}

func has(list []bool) func(int) bool {
	return func(n int) bool { return n < len(list) && list[n] }
}

// fits tells whether the step of a number fits.
func (w words) fits(number int) bool {
	for _, r := range w.p.Rows {
		if number < r.First || number >= r.First+len(r.Steps) {
			continue
		}
		s := r.Steps[number-r.First]
		for _, x := range s.Terms {
			if !w.holds(x) {
				return false
			}
		}
		ahead := has(w.context.Up)
		if s.Comb == api.CombNext || s.Comb == api.CombLater {
			ahead = has(w.context.Left)
		}
		return number == r.First || ahead(number-1)
	}
	panic("no such step")
}

func (w words) holds(x api.Term) bool {
	switch x.Kind {
	case api.TermAtom:
		return w.has(x.N)
	case api.TermRow:
		return w.fits(lastOf(w.p, x.N))
	case api.TermNot:
		return !w.holds(x.Terms[0])
	case api.TermAny:
		return slices.ContainsFunc(x.Terms, w.holds)
	case api.TermRoot:
		return w.context.Root
	case api.TermCount:
		ab := w.p.Counters[x.N].AB
		return counts(w.p, x.N, w.fits) && anb.Has(ab.A, ab.B, oneMore(w.p, w.context, x.N))
	}
	return x.Kind == api.TermTrue
}

// lastOf gives the number of a row's last step.
func lastOf(p api.Plan, row int) int { return p.Rows[row].First + len(p.Rows[row].Steps) - 1 }

// counts tells whether a counter counts an element that some steps fit.
func counts(p api.Plan, counter int, fits func(int) bool) bool {
	rows := p.Counters[counter].Rows
	return len(rows) == 0 || slices.ContainsFunc(rows, func(row int) bool { return fits(lastOf(p, row)) })
}

// oneMore gives the Fold of a counter's number and one more, worked out without an end of numbers.
func oneMore(p api.Plan, c api.Context, counter int) int {
	n := big.NewInt(1)
	if counter < len(c.Counts) {
		n.Add(n, big.NewInt(int64(c.Counts[counter])))
	}
	heads, rounds := flat.Spans(p)
	head, round := big.NewInt(int64(heads[counter])), big.NewInt(int64(rounds[counter]))
	if last := new(big.Int).Add(head, round); n.Cmp(last) > 0 {
		head.Add(head, big.NewInt(1))
		n.Sub(n, head).Mod(n, round).Add(n, head)
	}
	return int(n.Int64())
}

// start gives a context as long as the plan wants it.
func start(p api.Plan) api.Context {
	return api.Context{Up: make([]bool, p.Steps), Left: make([]bool, p.Steps), Counts: make([]int, len(p.Counters))}
}

func down(p api.Plan, c api.Context, fits []bool) api.Context {
	out := start(p)
	for i, comb := range flat.Kept(p) {
		out.Up[i] = comb == api.CombChild && has(fits)(i) || comb == api.CombBelow && (has(fits)(i) || has(c.Up)(i))
	}
	return out
}

func next(p api.Plan, c api.Context, fits []bool) api.Context {
	out := start(p)
	for i, comb := range flat.Kept(p) {
		out.Up[i] = has(c.Up)(i)
		out.Left[i] = comb == api.CombNext && has(fits)(i) || comb == api.CombLater && (has(fits)(i) || has(c.Left)(i))
	}
	for i := range p.Counters {
		switch {
		case counts(p, i, has(fits)):
			out.Counts[i] = oneMore(p, c, i)
		case i < len(c.Counts):
			out.Counts[i] = c.Counts[i]
		}
	}
	return out
}

// P15.1, P15.2: many plans, asked with any contexts and truths, also with lists that are too short or too long, answer as the chapter's words have it.
func TestByTheWords(t *testing.T) {
	for seed := range uint32(12000) {
		m := maker{seed}
		p := planOf(t, m.names(), m.lists(2)...)
		first := start(p)
		first.Root = true
		if got := step.Start(p); !same(got, first) {
			t.Fatalf("%+v: %s", p, toldContext(got))
		}
		for range 4 {
			c, atoms, fits := m.context(p), m.truths(len(p.Atoms)), m.truths(p.Steps)
			w := words{p, c, has(atoms)}
			want := make([]bool, p.Steps)
			for i := range want {
				want[i] = w.fits(i)
			}
			if got := step.Truths(p, c, atoms); !slices.Equal(got, want) {
				t.Fatalf("%+v, %s, %s: %s, not %s", p, toldContext(c), told(atoms), told(got), told(want))
			}
			if got, want := step.Down(p, c, fits), down(p, c, fits); !same(got, want) {
				t.Fatalf("%+v, %s, %s: %s, not %s", p, toldContext(c), told(fits), toldContext(got), toldContext(want))
			}
			if got, want := step.Next(p, c, fits), next(p, c, fits); !same(got, want) {
				t.Fatalf("%+v, %s, %s: %s, not %s", p, toldContext(c), told(fits), toldContext(got), toldContext(want))
			}
			got := step.Selected(p, fits)
			for i, is := range got {
				if is != has(fits)(lastOf(p, i)) || len(got) != len(p.Rows) {
					t.Fatalf("%+v, %s: %s", p, told(fits), told(got))
				}
			}
		}
	}
}
