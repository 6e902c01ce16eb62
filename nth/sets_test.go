package nth_test

import (
	"fmt"
	"testing"

	"wattle/anb"
	"wattle/nth"
)

// named is a set, and what says which numbers are in it.
type named struct {
	name string
	set  nth.Set
	has  func(int) bool
}

// one gives an An+B's set.
func one(t *testing.T, a, b int) named {
	t.Helper()
	return named{anb.Text(a, b), of(t, a, b), func(n int) bool { return anb.Has(a, b, n) }}
}

// not gives the set of all other numbers.
func (x named) not() named {
	return named{"not(" + x.name + ")", x.set.Not(), func(n int) bool { return !x.has(n) }}
}

// union gives the set of what is in one of some.
func union(t *testing.T, first named, more ...named) named {
	t.Helper()
	for _, x := range more {
		a := first
		s, err := nth.Union(a.set, x.set)
		if err != nil {
			t.Fatalf("%s or %s: %v", a.name, x.name, err)
		}
		first = named{"(" + a.name + " or " + x.name + ")", s, func(n int) bool { return a.has(n) || x.has(n) }}
	}
	return first
}

// inter gives the set of what is in all of some.
func inter(t *testing.T, first named, more ...named) named {
	t.Helper()
	for _, x := range more {
		a := first
		s, err := nth.Inter(a.set, x.set)
		if err != nil {
			t.Fatalf("%s and %s: %v", a.name, x.name, err)
		}
		first = named{"(" + a.name + " and " + x.name + ")", s, func(n int) bool { return a.has(n) && x.has(n) }}
	}
	return first
}

// smallSets gives sets of ordinary An+B, of none, of all, and some of two.
func smallSets(t *testing.T) []named {
	var out []named
	for _, x := range [][2]int{{0, 0}, {0, 1}, {0, 2}, {0, 5}, {1, 0}, {1, 2}, {1, 5}, {1, 6}, {2, 0}, {2, 1}, {2, 4}, {3, 0}, {3, 1}, {3, 2}, {3, 5}, {4, 0}, {4, 2}, {4, 3}, {6, 0}, {6, 3}, {6, 7}, {-1, 3}, {-1, 4}, {-1, 5}, {-2, 6}, {-3, 6}} {
		out = append(out, one(t, x[0], x[1]))
	}
	return append(out, union(t, one(t, 4, 1), one(t, 6, 3)), union(t, one(t, -1, 2), one(t, 3, 6)), inter(t, one(t, 1, 3), one(t, -1, 5)), union(t, one(t, 0, 4), one(t, 2, 9)))
}

// P5.1, P5.2: all pairs of small sets, and of what isn't in them.
func TestPairsByTheWords(t *testing.T) {
	list := smallSets(t)
	for _, x := range smallSets(t) {
		list = append(list, x.not())
	}
	for _, a := range list {
		checkSet(t, a.name, a.set, a.has, 24)
		checkSet(t, a.not().name, a.not().set, a.not().has, 24)
		for _, b := range list {
			x, y := union(t, a, b), inter(t, a, b)
			checkSet(t, x.name, x.set, x.has, 24)
			checkSet(t, y.name, y.set, y.has, 24)
			checkSame(t, a, b, 60)
		}
	}
}

// checkSame holds Same of two sets against what is in them up to a number.
func checkSame(t *testing.T, a, b named, most int) {
	t.Helper()
	want := true
	for n := 1; n <= most; n++ {
		want = want && a.has(n) == b.has(n)
	}
	if nth.Same(a.set, b.set) != want || nth.Same(b.set, a.set) != want {
		t.Fatalf("%s, %s: Same isn't %t", a.name, b.name, want)
	}
}

// P5.1, P5.2: sets of sets of sets, by a fixed row of numbers.
func TestTreesByTheWords(t *testing.T) {
	seed := uint32(7)
	next := func(n int) int {
		seed = seed*1664525 + 1013904223
		return int(seed>>8) % n
	}
	var tree func(deep int) named
	tree = func(deep int) named {
		if deep == 0 {
			return one(t, []int{0, 1, 2, 3, 4, 5, 6, 10, 12, 15, 20, -1, -2}[next(13)], next(30)-4)
		}
		x := tree(deep - 1)
		if next(2) == 0 {
			x = x.not()
		}
		if next(2) == 0 {
			return union(t, x, tree(deep-1))
		}
		return inter(t, x, tree(deep-1))
	}
	var list []named
	for i := range 400 {
		x := tree(1 + i%5)
		checkSet(t, x.name, x.set, x.has, 90)
		list = append(list, x)
	}
	for i, a := range list {
		checkSame(t, a, list[(i*7+1)%len(list)], 300)
	}
}

// P5.1, P5.2: rounds that become less, when all of some classes are there.
func TestLesserRounds(t *testing.T) {
	for _, x := range []struct{ step, every int }{{2, 1}, {3, 1}, {4, 2}, {6, 2}, {6, 3}, {8, 1}, {8, 4}, {9, 3}, {12, 4}, {12, 6}, {25, 5}, {30, 15}, {64, 1}, {64, 16}, {49, 7}, {36, 9}} {
		var list []named
		for b := x.every; b <= x.step; b += x.every {
			list = append(list, one(t, x.step, b))
		}
		u := union(t, list[0], list[1:]...)
		if want := of(t, x.every, 0); !nth.Same(u.set, want) || !nth.Same(u.set.Not(), want.Not()) {
			t.Errorf("%d of %d", x.every, x.step)
		}
		if head, round := u.set.Parts(); head != 0 || round != x.every {
			t.Errorf("%d of %d: %d, %d", x.every, x.step, head, round)
		}
	}
}

// P5.1, P5.2: heads that become less, that stay, and that are between both sets' ones.
func TestHeads(t *testing.T) {
	for _, x := range []struct {
		name        string
		set         nth.Set
		head, round int
	}{
		{"all told in two", union(t, one(t, -1, 50), one(t, 1, 51)).set, 0, 1},
		{"one left out", union(t, one(t, -1, 50), one(t, 1, 52)).set, 51, 1},
		{"the first one alone", inter(t, one(t, -1, 50), one(t, 50, 1)).set, 1, 1},
		{"the last one alone", inter(t, one(t, -1, 50), one(t, 1, 50)).set, 50, 1},
		{"none", inter(t, one(t, -1, 50), one(t, 1, 51)).set, 0, 1},
		{"one more ahead", union(t, one(t, 7, 50), one(t, 0, 43)).set, 36, 7},
		{"all ahead", union(t, one(t, 7, 50), one(t, -7, 43)).set, 0, 7},
		{"one of each", union(t, one(t, 0, 3), one(t, 7, 50)).set, 43, 7},
		{"both rounds, behind both heads", inter(t, one(t, 4, 30), one(t, 6, 4)).set, 22, 12},
		{"as great a head as the round", union(t, one(t, 0, 12), one(t, 12, 24)).set, 0, 12},
	} {
		if head, round := x.set.Parts(); head != x.head || round != x.round {
			t.Errorf("%s: %d, %d", x.name, head, round)
		}
	}
}

// P5.1: sets whose parts are together MaxSpan, or one less or more.
func TestSpanOfPairs(t *testing.T) {
	for _, x := range []struct {
		a, b, c, d, head, round int
	}{
		{63, 0, 65, 0, 0, 4095}, {2, 0, 2047, 0, 0, 4094}, {2, 0, 4095, 0, -1, 0}, {64, 5, 64, 5, 0, 64}, {512, 0, 8, 0, 0, 512}, {4096, 7, 1024, 7, 0, 4096}, {4096, 0, 4096, 0, 0, 4096}, {17, 0, 241, 0, -1, 0}, {64, 0, 65, 0, -1, 0}, {64, 0, 67, 0, -1, 0}, {4095, 0, 4096, 0, -1, 0},
		{63, 1, 65, 65, 0, 4095}, {63, 64, 65, 0, 0, 4095}, {63, 64, 65, 1, 1, 4095}, {63, 65, 65, 2, -1, 0}, {63, 0, 1, 4090, 4032, 63}, {63, 0, 1, 4094, 4032, 63}, {63, 0, 1, 4096, -1, 0}, {2, 1, 1, 4095, 4093, 2}, {2, 0, 1, 4095, 4094, 2}, {2, 1, 1, 4096, -1, 0}, {1, 0, 1, 4096, 4095, 1}, {-1, 4095, 1, 0, 4095, 1}, {2, 1, 0, 4095, 4095, 1}, {2, 0, 0, 4095, 0, 1},
	} {
		for range 2 {
			s, err := nth.Inter(of(t, x.a, x.b), of(t, x.c, x.d))
			n, err2 := nth.Union(of(t, x.a, x.b).Not(), of(t, x.c, x.d).Not())
			head, round := s.Parts()
			switch {
			case x.head < 0:
				if !isOver(err) || !isOver(err2) || !isEmpty(s) || !isEmpty(n) {
					t.Errorf("%v: %v, %v", x, err, err2)
				}
			case err != nil || err2 != nil || head != x.head || round != x.round || !nth.Same(s.Not(), n):
				t.Errorf("%v: %d, %d, %v, %v", x, head, round, err, err2)
			}
			x.a, x.b, x.c, x.d = x.c, x.d, x.a, x.b
		}
	}
	for m, over := range map[int]bool{1: false, 2: true, 4094: true, 4095: false} {
		if s, err := nth.Union(of(t, 0, m), of(t, 4095, 0)); isOver(err) != over || (err == nil) == over || over != isEmpty(s) {
			t.Errorf("%d: %v", m, err)
		}
	}
}

// P5.1: rounds whose common one is far above MaxSpan, while what both have together isn't.
func TestGreatRounds(t *testing.T) {
	empty := func(x named) { t.Helper(); checkSet(t, x.name, x.set, func(int) bool { return false }, 3) }
	empty(inter(t, one(t, 4096, 0), one(t, 4096, 1)))
	empty(inter(t, one(t, 4094, 0), one(t, 4092, 1)))
	empty(inter(t, one(t, 4095, 3), one(t, 4092, 1)))
	all := union(t, one(t, 4094, 0).not(), one(t, 4092, 1).not())
	checkSet(t, all.name, all.set, func(int) bool { return true }, 3)
	for _, x := range [][4]int{{4094, 0, 4092, 2}, {4095, 3, 4092, 0}, {4096, 0, 4095, 4095}, {4093, 1, 4091, 2}} {
		for range 2 {
			if s, err := nth.Inter(of(t, x[0], x[1]), of(t, x[2], x[3])); !isOver(err) || !isEmpty(s) {
				t.Errorf("%v: %v", x, err)
			}
			x = [4]int{x[2], x[3], x[0], x[1]}
		}
	}
	// Rounds of 2670 and of 4, with 5340 together; but the even numbers of the first set meet just one of the other one.
	a := union(t, one(t, 178, 1), one(t, 30, 2))
	b := union(t, one(t, 4, 3), one(t, 0, 62))
	x := inter(t, a, b)
	checkSet(t, x.name, x.set, x.has, 400)
	if head, round := x.set.Parts(); head != 62 || round != 356 {
		t.Errorf("%d, %d", head, round)
	}
}

// P5.1: what meets by classes, with rounds whose common one is over.
func TestClassesThatMeet(t *testing.T) {
	for _, p := range [][2]int{{1000, 1001}, {1024, 1000}, {1500, 1300}, {1200, 1250}} {
		for turn := 2; turn <= 4; turn++ {
			odd := inter(t, one(t, p[0], 1), one(t, turn, 1))
			even := inter(t, one(t, p[1], turn), one(t, turn, 0))
			name := fmt.Sprintf("%v by %d", p, turn)
			checkSet(t, name, inter(t, odd, even).set, func(int) bool { return false }, 3)
			every := union(t, odd.not(), even.not())
			checkSet(t, name, every.set, func(int) bool { return true }, 3)
		}
	}
}

// P5.2: sets that are unlike in one number, or in their round alone.
func TestSame(t *testing.T) {
	for _, x := range []struct {
		a, b named
		want bool
	}{
		{one(t, 2, 0), one(t, 2, 2), true}, {one(t, 2, 0), one(t, 2, -6), true}, {one(t, 2, 0), one(t, 2, 1), false}, {one(t, 2, 0), one(t, 4, 0), false}, {one(t, 2, 0), one(t, 2, 4), false},
		{one(t, 1, 1), one(t, 1, -9), true}, {one(t, -5, 3), one(t, 0, 3), true}, {one(t, 0, -3), one(t, -1, 0), true}, {one(t, 0, 3), one(t, 0, 4), false}, {one(t, 0, 3), one(t, -1, 3), false},
		{one(t, 3, 4), one(t, 3, 7), false}, {one(t, 1, 4), one(t, 1, 4), true}, {one(t, 4096, 0), one(t, 4096, 4096), true}, {one(t, 4096, 0), one(t, 4096, 4095), false}, {one(t, 0, 4095), one(t, 0, 4094), false}, {one(t, 1, 2), one(t, 0, 1), false},
	} {
		if nth.Same(x.a.set, x.b.set) != x.want || nth.Same(x.b.set, x.a.set) != x.want || !nth.Same(x.a.set, x.a.set) {
			t.Errorf("%s, %s", x.a.name, x.b.name)
		}
	}
}
