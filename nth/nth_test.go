package nth_test

import (
	"errors"
	"math"
	"testing"

	"wattle/anb"
	"wattle/api"
	"wattle/nth"
)

// of gives the set of an An+B that isn't over.
func of(t *testing.T, a, b int) nth.Set {
	t.Helper()
	s, err := nth.Of(api.AB{A: a, B: b})
	if err != nil {
		t.Fatalf("%dn%+d: %v", a, b, err)
	}
	return s
}

// isOver tells whether an error is ErrOver at 0, by itself.
func isOver(err error) bool {
	var f *api.Fault
	return errors.As(err, &f) && f.Kind == api.ErrOver && f.At == 0 && f.Inner == nil
}

// isEmpty tells whether a set is told as the empty one.
func isEmpty(s nth.Set) bool {
	n, ok := s.Least()
	head, round := s.Parts()
	return n == 0 && !ok && head == 0 && round == 1 && !s.Has(1) && nth.Same(s, nth.Set{})
}

// leastParts gives by the words the parts of a set, whose head isn't above most, and that comes round after a number that isn't above most, too.
func leastParts(has func(int) bool, most int) (head, round int) {
	for round = 1; round <= most; round++ {
		head = 2 * most
		for head > 0 && has(head) == has(head+round) {
			head--
		}
		if head <= most {
			return head, round
		}
	}
	return -1, -1
}

// checkSet holds a set against what a function says, which comes round as leastParts needs it.
func checkSet(t *testing.T, name string, s nth.Set, has func(int) bool, most int) {
	t.Helper()
	least, some := 0, false
	for n := -3; n <= 4*most; n++ {
		want := n >= 1 && has(n)
		if s.Has(n) != want {
			t.Fatalf("%s: Has of %d isn't %t", name, n, want)
		}
		if want && !some {
			least, some = n, true
		}
	}
	if n, ok := s.Least(); n != least || ok != some {
		t.Fatalf("%s: Least is %d, %t, not %d, %t", name, n, ok, least, some)
	}
	wantHead, wantRound := leastParts(has, most)
	if head, round := s.Parts(); head != wantHead || round != wantRound {
		t.Fatalf("%s: Parts are %d, %d, not %d, %d", name, head, round, wantHead, wantRound)
	}
}

// P5.1, P5.2: sets of small numbers, each held against layer 4, their parts and least numbers against the words.
func TestOfByTheWords(t *testing.T) {
	for a := -9; a <= 9; a++ {
		for b := -20; b <= 20; b++ {
			has := func(n int) bool { return anb.Has(a, b, n) }
			checkSet(t, anb.Text(a, b), of(t, a, b), has, 20)
		}
	}
}

// P5.1, P5.2: the parts and the least number of ordinary An+B, and of those at the edges.
func TestOfParts(t *testing.T) {
	for _, x := range []struct{ a, b, head, round, least int }{
		{2, 1, 0, 2, 1}, {-1, 3, 3, 1, 1}, {0, 0, 0, 1, 0}, {0, 1, 1, 1, 1}, {0, -1, 0, 1, 0}, {0, 7, 7, 1, 7}, {1, 0, 0, 1, 1}, {1, 1, 0, 1, 1}, {1, 2, 1, 1, 2}, {1, -7, 0, 1, 1},
		{3, 3, 0, 3, 3}, {3, 4, 1, 3, 4}, {3, 10, 7, 3, 10}, {3, -1, 0, 3, 2}, {3, -3, 0, 3, 3}, {3, -4, 0, 3, 2}, {5, 2, 0, 5, 2},
		{-1, 0, 0, 1, 0}, {-1, -5, 0, 1, 0}, {-2, 4, 4, 1, 2}, {-7, 7, 7, 1, 7}, {-8, 7, 7, 1, 7},
		{4096, 0, 0, 4096, 4096}, {4096, 4096, 0, 4096, 4096}, {4096, 1, 0, 4096, 1}, {1, 4096, 4095, 1, 4096}, {4095, 4096, 1, 4095, 4096}, {7, 4096, 4089, 7, 4096}, {0, 4095, 4095, 1, 4095}, {-1, 4095, 4095, 1, 1}, {-4096, 4095, 4095, 1, 4095},
		{math.MinInt, 0, 0, 1, 0}, {math.MinInt, 3, 3, 1, 3}, {math.MinInt, 4095, 4095, 1, 4095}, {math.MinInt, math.MinInt, 0, 1, 0}, {-1, math.MinInt, 0, 1, 0}, {0, math.MinInt, 0, 1, 0}, {1, math.MinInt, 0, 1, 1}, {-math.MaxInt, 5, 5, 1, 5},
		{3, math.MinInt, 0, 3, 1}, {4, math.MinInt, 0, 4, 4}, {4096, math.MinInt, 0, 4096, 4096}, {4096, math.MinInt + 1, 0, 4096, 1}, {1, -math.MaxInt, 0, 1, 1},
	} {
		s := of(t, x.a, x.b)
		head, round := s.Parts()
		least, some := s.Least()
		if head != x.head || round != x.round || least != x.least || some != (x.least > 0) {
			t.Errorf("%s: %d, %d; %d, %t", anb.Text(x.a, x.b), head, round, least, some)
		}
		for _, n := range []int{math.MinInt, -1, 0, 1, 2, 3, 4094, 4095, 4096, 4097, 8191, 8192, 8193, 1 << 40, math.MaxInt - 1, math.MaxInt} {
			if s.Has(n) != anb.Has(x.a, x.b, n) {
				t.Errorf("%s: Has of %d", anb.Text(x.a, x.b), n)
			}
		}
	}
}

// P5.1: what is over; beside the error the set is the zero one.
func TestOfOver(t *testing.T) {
	for _, x := range []api.AB{
		{A: 4097, B: 0}, {A: 5000, B: 0}, {A: 5000, B: -1}, {A: 4097, B: math.MinInt}, {A: 1, B: 4097}, {A: 4096, B: 4097}, {A: 4095, B: 4097}, {A: 2, B: 4098}, {A: 0, B: 4096}, {A: -1, B: 4096}, {A: -4096, B: 4096},
		{A: math.MaxInt, B: 0}, {A: math.MaxInt, B: 1}, {A: math.MaxInt, B: math.MaxInt}, {A: math.MaxInt, B: math.MinInt}, {A: 1, B: math.MaxInt}, {A: 0, B: math.MaxInt}, {A: -1, B: math.MaxInt}, {A: math.MinInt, B: math.MaxInt}, {A: math.MinInt, B: 4096}, {A: 1 << 32, B: 3}, {A: 0, B: 1 << 32}, {A: 3, B: 1<<32 + 1},
	} {
		if s, err := nth.Of(x); !isOver(err) || !isEmpty(s) {
			t.Errorf("%v: %v", x, err)
		}
	}
}

// P5.1, P5.2, P5.5: the empty set, and that of all numbers.
func TestZeroAndAll(t *testing.T) {
	none := func(int) bool { return false }
	every := func(int) bool { return true }
	checkSet(t, "zero", nth.Set{}, none, 5)
	checkSet(t, "not all", nth.All().Not(), none, 5)
	checkSet(t, "all", nth.All(), every, 5)
	checkSet(t, "not zero", nth.Set{}.Not(), every, 5)
	for _, n := range []int{math.MinInt, -1, 0, 1, 5000, math.MaxInt} {
		if (nth.Set{}).Has(n) || nth.All().Has(n) != (n > 0) {
			t.Errorf("%d", n)
		}
	}
	two := of(t, 2, 0)
	for _, x := range []struct{ a, b, union, inter nth.Set }{
		{nth.Set{}, nth.Set{}, nth.Set{}, nth.Set{}}, {nth.Set{}, nth.All(), nth.All(), nth.Set{}}, {nth.Set{}, two, two, nth.Set{}}, {nth.All(), two, nth.All(), two},
	} {
		for range 2 {
			union, err := nth.Union(x.a, x.b)
			inter, err2 := nth.Inter(x.a, x.b)
			if err != nil || err2 != nil || !nth.Same(union, x.union) || !nth.Same(inter, x.inter) {
				t.Errorf("%v, %v", x.a, x.b)
			}
			x.a, x.b = x.b, x.a
		}
	}
}
