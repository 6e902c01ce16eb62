package local_test

import (
	"slices"
	"strconv"
	"testing"

	"wattle/api"
	"wattle/local"
)

// P1, P13.2: many atoms that have few rows end soon.
func TestManyAtoms(t *testing.T) {
	var pairs, spots, never []atom
	for n := range 1500 {
		s := strconv.Itoa(n)
		pairs = append(pairs, within("u"+s, typ("a"+s)))
		spots = append(spots, within("u"+s, attr("t", 0, "")))
		never = append(never, within("u", attr("t"+s, 0, "")))
	}
	for i, x := range []struct {
		list []atom
		want int
	}{
		{names(2000), 2001}, {pairs, 1501}, {append(pairs, typ("b"), within("v", typ(""))), 1504}, {spots, 1}, {never, 1}, {append(spots, times(50, attr("t", has, ""))...), 2}, {times(3000, attr("t", is, "x")), 2}, {times(3000, within("", attr("t", is, "x"))), 2}, {times(3000, state("hover")), 2}, {times(3000, typ("a")), 2}, {times(3000, typ("")), 1},
	} {
		out, steps, err := local.Letters(x.list, local.Bound(x.list))
		if len(out) != x.want || err != nil || steps > local.Bound(x.list) {
			t.Errorf("%d: %d, %d, %v", i, len(out), steps, err)
		}
		for k, a := range x.list {
			if l := out[(k+1)%len(out)]; holds(a, l.Node) != l.Holds[k] {
				t.Errorf("%d: %d", i, k)
			}
		}
	}
}

// P13.2: all rows that there may be, of each kind of group.
func TestManyRows(t *testing.T) {
	var words, free, all, spots []atom
	for c := 'a'; c < 'k'; c++ {
		s := string(c)
		words, free = append(words, class(s)), append(free, attr("t", is, s))
		spots = append(spots, within(s, attr("t", has, "")))
	}
	for _, name := range states {
		all = append(all, state(name))
	}
	mixed := slices.Concat(words[:4], free[:4], all[:4], spots[:2], names(3))
	for i, some := range [][]atom{words, free, all, spots, append(free, within("u", attr("t", is, "a"))), append(spots[:6:6], free[:4]...), mixed} {
		want := []int{1 << 10, 1 << 10, 1 << 10, 1 << 10, 1<<10 + 1<<9, 1 << 10, 1 << 14 * 4}[i]
		if got := len(lettersOf(t, some)); got != want {
			t.Errorf("%d: %d", i, got)
		}
	}
	// Conditions of which any may hold, or not, in any namespaces.
	if got := len(lettersOf(t, anyOf(words))); got != 1<<10 {
		t.Error(got)
	}
	both := append(slices.Clone(words[:5]), anyOf(words[5:])...)
	if got := len(lettersOf(t, both)); got != 1<<10 {
		t.Error(got)
	}
}

// anyOf gives atoms that ask for no namespace.
func anyOf(some []atom) (out []atom) {
	for _, a := range some {
		a.HasSpace = false
		out = append(out, a)
	}
	return out
}

// P1, P13.2: budgets far below what is needed are told soon, whatever is asked.
func TestSmallBudgets(t *testing.T) {
	var words, homes, free []atom
	for n := range 3000 {
		s := strconv.Itoa(n)
		words = append(words, class("c"+s))
		homes = append(homes, typ("a"+s), within("u"+s, typ("")))
		free = append(free, attr("t", is, s), within(s, attr("t", is, "x")))
	}
	for i, some := range [][]atom{words, homes, free, attrs(3000), anyOf(words), append(attrs(60), names(1000)...), slices.Concat(words[:40], homes[:40], free[:40])} {
		for _, budget := range []int{0, 1, 100, 2000} {
			out, steps, err := local.Letters(some, budget)
			if !isFault(err, api.ErrLimit, 0) || len(out) > 0 || steps < 0 || steps > budget {
				t.Errorf("%d, %d: %d, %d, %v", i, budget, len(out), steps, err)
			}
		}
	}
	// What comes of many groups together is known to be too much ahead of making it.
	for _, budget := range []int{1 << 20, 1 << 40} {
		if _, steps, err := local.Letters(slices.Concat(words[:4], homes, []atom{state("hover")}, hasAll(40)), budget); !isFault(err, api.ErrLimit, 0) || steps > budget {
			t.Errorf("%d, %v", steps, err)
		}
	}
}

// hasAll gives atoms of as many attributes, which may be there or not.
func hasAll(size int) (out []atom) {
	for n := range size {
		out = append(out, attr("n"+strconv.Itoa(n), has, ""))
	}
	return out
}
