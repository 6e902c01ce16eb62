package reach_test

import (
	"fmt"
	"testing"

	"wattle/api"
	"wattle/flat"
	"wattle/match"
	"wattle/reach"
	"wattle/step"
)

// P16.1: each kind of want, and numbers that are no row's.
func TestWanted(t *testing.T) {
	w := func(none []int, all ...[]int) api.Want { return api.Want{All: all, None: none} }
	l := func(rows ...int) []int { return rows }
	for i, x := range []struct {
		wants    []api.Want
		selected string
		want     int
	}{
		{nil, "", -1}, {nil, "11", -1}, {[]api.Want{}, "11", -1},
		{[]api.Want{w(nil)}, "", 0}, {[]api.Want{w(nil)}, "111", 0}, {[]api.Want{w(l(), nil)}, "111", -1}, {[]api.Want{w(nil, l(0), l())}, "111", -1}, {[]api.Want{w(nil, l(0))}, "1", 0}, {[]api.Want{w(nil, l(0))}, "0", -1}, {[]api.Want{w(nil, l(0))}, "", -1},
		{[]api.Want{w(nil, l(0, 1))}, "01", 0}, {[]api.Want{w(nil, l(0, 1))}, "10", 0}, {[]api.Want{w(nil, l(0, 1))}, "001", -1}, {[]api.Want{w(nil, l(0), l(1))}, "01", -1}, {[]api.Want{w(nil, l(0), l(1))}, "10", -1}, {[]api.Want{w(nil, l(0), l(1))}, "11", 0}, {[]api.Want{w(nil, l(0, 2), l(1, 2))}, "001", 0}, {[]api.Want{w(nil, l(0), l(0))}, "1", 0}, {[]api.Want{w(nil, l(1, 1))}, "01", 0},
		{[]api.Want{w(l(0))}, "1", -1}, {[]api.Want{w(l(0))}, "0", 0}, {[]api.Want{w(l(0))}, "", 0}, {[]api.Want{w(l(0, 1))}, "01", -1}, {[]api.Want{w(l(0, 1))}, "001", 0}, {[]api.Want{w(l(1), l(0))}, "10", 0}, {[]api.Want{w(l(1), l(0))}, "11", -1}, {[]api.Want{w(l(1), l(0))}, "00", -1}, {[]api.Want{w(l(0), l(0))}, "1", -1},
		{[]api.Want{w(nil, l(-1))}, "11", -1}, {[]api.Want{w(nil, l(2))}, "11", -1}, {[]api.Want{w(nil, l(-1<<63, 1<<63-1, 1))}, "11", 0}, {[]api.Want{w(l(-1, 2, -1<<63, 1<<63-1))}, "11", 0},
		{[]api.Want{w(nil, l(0)), w(nil, l(1))}, "11", 0}, {[]api.Want{w(nil, l(0)), w(nil, l(1))}, "01", 1}, {[]api.Want{w(nil, l(0)), w(nil, l(1)), w(nil)}, "00", 2}, {[]api.Want{w(l(1), l(0)), w(nil, l(1))}, "11", 1}, {[]api.Want{w(l(1), l(0)), w(l(0), l(1))}, "11", -1}, {[]api.Want{{Pseudo: "before", All: [][]int{{0}}}}, "1", 0},
	} {
		got, ok := reach.Wanted(x.wants, truths(x.selected))
		if ok != (x.want >= 0) || got != max(0, x.want) {
			t.Errorf("%d: %d, %t", i, got, ok)
		}
	}
}

// truths gives the truths that are told by ones and other signs.
func truths(s string) (out []bool) {
	for _, c := range s {
		out = append(out, c == '1')
	}
	return out
}

// P16.4: the wants of lists with pseudo-elements, with and without each other, and of lists that there aren't.
func TestWants(t *testing.T) {
	a := ask(t, "a, b::before, c:not(d), e::before", "b::after, a", "c::after", "b::before, c, b::marker")
	// The rows are 0, 1, 3 (that within is 2), 4; 5, 6; 7; 8, 9, 10.
	p := a.plan
	for i, x := range []struct {
		got  []api.Want
		want string
	}{
		{reach.One(p, 0), "[{ [[0 3]] []} {before [[1 4]] []}]"}, {reach.One(p, 1), "[{ [[6]] []} {after [[5]] []}]"}, {reach.One(p, 2), "[{after [[7]] []}]"}, {reach.One(p, 3), "[{ [[9]] []} {before [[8]] []} {marker [[10]] []}]"},
		{reach.Both(p, 0, 1), "[{ [[0 3] [6]] []}]"}, {reach.Both(p, 1, 0), "[{ [[6] [0 3]] []}]"}, {reach.Both(p, 0, 0), "[{ [[0 3] [0 3]] []} {before [[1 4] [1 4]] []}]"}, {reach.Both(p, 0, 2), "[]"}, {reach.Both(p, 1, 2), "[{after [[5] [7]] []}]"}, {reach.Both(p, 0, 3), "[{ [[0 3] [9]] []} {before [[1 4] [8]] []}]"}, {reach.Both(p, 2, 3), "[]"},
		{reach.Only(p, 0, 1), "[{ [[0 3]] [6]} {before [[1 4]] []}]"}, {reach.Only(p, 1, 0), "[{ [[6]] [0 3]} {after [[5]] []}]"}, {reach.Only(p, 0, 0), "[{ [[0 3]] [0 3]} {before [[1 4]] [1 4]}]"}, {reach.Only(p, 2, 1), "[{after [[7]] [5]}]"}, {reach.Only(p, 3, 0), "[{ [[9]] [0 3]} {before [[8]] [1 4]} {marker [[10]] []}]"},
		{reach.One(p, -1), "[]"}, {reach.One(p, 4), "[]"}, {reach.One(p, 1<<63-1), "[]"}, {reach.One(p, -1<<63), "[]"}, {reach.Both(p, 0, 4), "[]"}, {reach.Both(p, -1, 0), "[]"}, {reach.Both(p, 4, -1), "[]"}, {reach.Only(p, 4, 0), "[]"}, {reach.Only(p, -1, 0), "[]"}, {reach.Only(p, 2, 4), "[{after [[7]] []}]"}, {reach.Only(p, 2, -1), "[{after [[7]] []}]"}, {reach.Only(p, 2, 1<<63-1), "[{after [[7]] []}]"}, {reach.Only(p, 2, -1<<63), "[{after [[7]] []}]"},
		{reach.One(api.Plan{}, 0), "[]"}, {reach.Both(api.Plan{}, 0, 0), "[]"}, {reach.Only(api.Plan{}, 0, 0), "[]"},
	} {
		if got := fmt.Sprint(x.got); got != x.want {
			t.Errorf("%d: %s", i, got)
		}
	}
	// The order is that in which the pseudo-elements come first, whichever list they stand in.
	late := ask(t, "a::after", "b, c::before, d::after").plan
	if got := fmt.Sprint(reach.One(late, 1), reach.Only(late, 1, 0), reach.Both(late, 1, 0)); got != "[{after [[3]] []} { [[1]] []} {before [[2]] []}] [{after [[3]] [0]} { [[1]] []} {before [[2]] []}] [{after [[3] [0]] []}]" {
		t.Error(got)
	}
}

// P16.4: at each element of many documents what lists want is what layer 12 says that they select.
func TestWantsByTheWords(t *testing.T) {
	wanted := 0
	for seed := range uint32(3000) {
		m := &maker{seed}
		a := askOf(t, api.Names{}, m.lists(2+m.pick(2))...)
		tree := treeOf(t, m.doc(1+m.pick(9)))
		for _, n := range tree.Elements() {
			var rows []bool
			for i := range a.plan.Rows {
				rows = append(rows, a.row(tree, i, n))
			}
			for _, pseudo := range flat.Pseudos(a.plan) {
				first, second := match.Selects(tree, a.lists[0], a.names, api.Subject{Node: n, Pseudo: pseudo}), match.Selects(tree, a.lists[1], a.names, api.Subject{Node: n, Pseudo: pseudo})
				for i, x := range []struct {
					wants []api.Want
					is    bool
				}{{reach.One(a.plan, 0), first}, {reach.Both(a.plan, 0, 1), first && second}, {reach.Only(a.plan, 0, 1), first && !second}, {reach.Only(a.plan, 1, 0), second && !first}} {
					if wants(x.wants, pseudo, rows) != x.is {
						t.Fatalf("%+v, %d, %q: not %t", a.lists, i, pseudo, x.is)
					}
					if x.is {
						wanted++
					}
				}
			}
		}
	}
	if wanted < 10000 {
		t.Errorf("just %d are wanted", wanted)
	}
}

// wants tells whether the one want of a pseudo-element wants an element.
func wants(list []api.Want, pseudo string, rows []bool) bool {
	for i, w := range list {
		if w.Pseudo == pseudo {
			_, ok := reach.Wanted(list[i:i+1], rows)
			return ok
		}
	}
	return false
}

// P16.3: of atoms, of steps that have a Kept, and of counters; up to 2^62.
func TestBound(t *testing.T) {
	const most = 1 << 62
	stars := func(many int) api.Plan { // of so many steps with a Kept
		s := "*|*"
		for range many {
			s += " > *|*"
		}
		return ask(t, s).plan
	}
	counters := func(list ...api.AB) (p api.Plan) {
		for _, x := range list {
			p.Counters = append(p.Counters, api.Counter{AB: x})
		}
		return p
	}
	for i, x := range []struct {
		p    api.Plan
		want int
	}{
		// Layer 13's Bound is 5 without atoms, 9 of one name, 13 of two, 45 of a condition of one character.
		{api.Plan{}, 5 + 5*2}, {ask(t, "*|*").plan, 5 + 5*2}, {ask(t, ":root").plan, 5 + 5*2}, {ask(t, "a").plan, 9 + 9*2}, {ask(t, "a, b").plan, 13 + 13*2}, {ask(t, "a", "b").plan, 13 + 13*2}, {ask(t, "[*|t=x]").plan, 45 + 45*2},
		{ask(t, "a > b").plan, 13 + 13*3}, {ask(t, "a b").plan, 13 + 13*3}, {ask(t, "a + b").plan, 13 + 13*3}, {ask(t, "a ~ b").plan, 13 + 13*3}, {ask(t, "a b > a").plan, 13 + 13*5}, {ask(t, "a b, a + b, a").plan, 13 + 13*5}, {ask(t, "a b", "a + b").plan, 13 + 13*5}, {ask(t, "a:not(a b)").plan, 13 + 13*3}, {ask(t, "a :not(a > b ~ a)").plan, 13 + 13*9},
		{ask(t, ":nth-child(2n)").plan, 5 + 5*4}, {ask(t, ":nth-child(4)").plan, 5 + 5*7}, {ask(t, ":nth-child(0)").plan, 5 + 5*3}, {ask(t, ":nth-child(n)").plan, 5 + 5*3}, {ask(t, ":nth-child(-n+3)").plan, 5 + 5*6}, {ask(t, ":nth-child(3n+5)").plan, 5 + 5*9}, {ask(t, ":nth-child(2n):nth-child(3n)").plan, 5 + 5*13}, {ask(t, ":nth-child(2n):nth-child(2n)").plan, 5 + 5*10}, {ask(t, ":nth-child(2n of a b)").plan, 13 + 13*7}, {ask(t, ":nth-child(2n) :nth-child(3n) :root").plan, 5 + 5*(1+4*3*4)},
		// Near 2^62, and above.
		{stars(59), 5*(1<<59+1) + 5}, {stars(60), most}, {stars(61), most}, {stars(62), most}, {stars(63), most}, {stars(64), most}, {stars(200), most},
		{counters(api.AB{A: most}), most}, {counters(api.AB{A: 1<<63 - 1, B: 1<<63 - 1}), most}, {counters(api.AB{A: -1 << 63, B: 1<<63 - 1}), most}, {counters(api.AB{A: most / 8}), 5 + 5*(1+1+most/8)}, {counters(api.AB{A: most / 8, B: 1 + most/16}), 5 + 5*(1+1+3*(most/16))}, {counters(api.AB{A: most / 8, B: 1 + most/8}), most}, {counters(api.AB{A: 1 << 20}, api.AB{A: 1 << 20}, api.AB{A: 1<<19 - 1}), 5 + 5*(1+(1<<20+1)*(1<<20+1)*(1<<19))}, {counters(api.AB{A: 1 << 20}, api.AB{A: 1 << 20}, api.AB{A: 1 << 20}), most}, {counters(api.AB{A: most - 1}, api.AB{}), most}, {counters(api.AB{A: most - 2}), most},
		{ask(t, "[a][b][c][d][e][f][g][h][i][j][k][l][m][n][o][p][q][r][s][t][u][v][w][x][y][z][aa][ab][ac][ad][ae][af][ag][ah][ai][aj][ak]").plan, most},
		// Atoms that aren't right.
		{api.Plan{Atoms: []api.Atom{{}}}, 0}, {api.Plan{Atoms: []api.Atom{{}}, Counters: []api.Counter{{AB: api.AB{A: most}}}}, 0},
	} {
		if got := reach.Bound(x.p); got != x.want {
			t.Errorf("%d: %d, not %d", i, got, x.want)
		}
	}
}

// P16.3: there are no more contexts than the bound counts.
func TestContexts(t *testing.T) {
	for seed := range uint32(500) {
		m := &maker{seed}
		p := askOf(t, api.Names{}, m.lists(1)...).plan
		seen, list := map[string]bool{}, []api.Context{}
		arrive := func(c api.Context) {
			if !seen[step.Key(c)] {
				seen[step.Key(c)] = true
				list = append(list, c)
			}
		}
		letters := lettersOf(t, p)
		arrive(step.Start(p))
		for k := 0; k < len(list) && k < 3000; k++ {
			for _, x := range letters {
				fits := step.Truths(p, list[k], x.Holds)
				arrive(step.Down(p, list[k], fits))
				if !list[k].Root {
					arrive(step.Next(p, list[k], fits))
				}
			}
		}
		if b := reach.Bound(p); len(list)*len(letters) >= b {
			t.Errorf("%+v: %d contexts of %d letters, and %d", p, len(list), len(letters), b)
		}
	}
}
