package nth_test

import (
	"math"
	"slices"
	"testing"

	"wattle/anb"
	"wattle/api"
	"wattle/nth"
)

// P5.5: no call changes a set that was there, that it was given or that it is made from.
func TestSetsStay(t *testing.T) {
	list := smallSets(t)
	for range 3 {
		for i := range len(list) {
			a, b := list[i], list[(i*5+2)%len(list)]
			got := append(slices.Clone(list[:8]), a.not(), union(t, a, b), inter(t, a, b), union(t, a, a), inter(t, b, b))
			for _, x := range got {
				x.set.Not().Not()
				nth.Union(x.set, a.set)
				nth.Inter(b.set, x.set)
				nth.Same(x.set, b.set)
				x.set.Least()
			}
			for _, x := range append(got, a, b) {
				checkSet(t, x.name, x.set, x.has, 24)
			}
		}
	}
	for _, x := range list {
		checkSet(t, x.name, x.set, x.has, 24)
	}
}

// P5.5: one set in several others: what is done with one of these isn't seen in another one.
func TestSetsOfOne(t *testing.T) {
	a := one(t, 6, 10)
	list := []named{a, a.not(), union(t, a, one(t, 0, 1)), inter(t, a, one(t, 1, 12)), union(t, one(t, 6, 9), a), inter(t, a, a), union(t, a, a)}
	for _, x := range list {
		for _, y := range list {
			union(t, x, y)
			inter(t, y, x.not())
		}
	}
	for _, x := range list {
		checkSet(t, x.name, x.set, x.has, 24)
	}
}

// P5.5: Span doesn't change its list, nor look at the spare room.
func TestSpanMemory(t *testing.T) {
	whole := []api.AB{{A: 4, B: 3}, {A: -6, B: 9}, {B: 2}, {A: 7, B: 100}, {A: math.MaxInt, B: math.MaxInt}}
	before := slices.Clone(whole)
	for n := range len(whole) {
		head, round := nth.Span(whole[:n])
		head2, round2 := nth.Span(slices.Clone(before[:n]))
		if !slices.Equal(whole, before) || head != head2 || round != round2 {
			t.Errorf("%d: %d, %d", n, head, round)
		}
	}
}

// P1, P2, P5.5: wild numbers end, without a panic, twice in the same way.
func TestWildNumbers(t *testing.T) {
	wild := []int{math.MinInt, math.MinInt + 1, -most - 1, -most, -1 << 32, -api.MaxSpan, -1, 0, 1, 2, 3, 4094, 4095, 4096, 4097, 1 << 32, most - 1, most, most + 1, math.MaxInt - 1, math.MaxInt}
	for _, a := range wild {
		for _, b := range wild {
			x := api.AB{A: a, B: b}
			s, err := nth.Of(x)
			s2, err2 := nth.Of(x)
			if !nth.Same(s, s2) || (err == nil) != (err2 == nil) || err != nil && (!isOver(err) || err == err2 || !isEmpty(s)) {
				t.Errorf("%v: %v, %v", x, err, err2)
			}
			for _, n := range wild {
				if err == nil && (s.Has(n) != anb.Has(a, b, n) || s.Not().Has(n) != (n > 0 && !s.Has(n))) {
					t.Errorf("%v: %d", x, n)
				}
				if n2 := nth.Fold(a, b, n); n2 != nth.Fold(a, b, n) || a >= 0 && (n2 > n || b > 0 && n > 0 && n2 < 1 || b < 1 && n2 != n) {
					t.Errorf("%d, %d, %d: %d", a, b, n, n2)
				}
				head, round := nth.Span([]api.AB{x, {A: n, B: a}})
				if head < 0 || head > most || round < 1 || round > most {
					t.Errorf("%v, %d: %d, %d", x, n, head, round)
				}
			}
		}
	}
}
