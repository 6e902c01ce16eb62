package ask_test

import (
	"slices"
	"strings"
	"testing"

	"wattle/api"
	"wattle/ask"
	"wattle/dom"
	"wattle/flat"
	"wattle/match"
	"wattle/plant"
	"wattle/reach"
	"wattle/sel"
)

// planned is lists, and the plan that they are made.
type planned struct {
	lists [][]api.Complex
	names api.Names
	plan  api.Plan
}

func planOf(t *testing.T, names api.Names, lists ...[]api.Complex) planned {
	t.Helper()
	p, err := flat.Make(lists, names)
	if err != nil {
		t.Fatalf("%+v: %v", lists, err)
	}
	return planned{lists, names, p}
}

// row tells by layer 12 whether a row of the lists selects an element, or its pseudo-element. A number that is no such row's doesn't.
func (p planned) row(tree *dom.Tree, number, n int) bool {
	for i, rows := range p.plan.Lists {
		if k := slices.Index(rows, number); k >= 0 {
			c := p.lists[i][k]
			return match.Complex(tree, c, p.names, api.Subject{Node: n, Pseudo: sel.Pseudo(c)})
		}
	}
	return false
}

// wants tells by the words of chapter 16 whether a want wants an element.
func (p planned) wants(tree *dom.Tree, w api.Want, n int) bool {
	for _, rows := range w.All {
		if !slices.ContainsFunc(rows, func(row int) bool { return p.row(tree, row, n) }) {
			return false
		}
	}
	return !slices.ContainsFunc(w.None, func(row int) bool { return p.row(tree, row, n) })
}

// witness asks for a witness, with budgets around what is needed, and holds it against layer 16, layer 12 and layer 17.
func witness(t *testing.T, p planned, wants []api.Want) api.Verdict {
	t.Helper()
	found, steps, err := reach.Search(p.plan, wants, enough)
	v, err2 := ask.Witness(p.plan, wants, enough)
	if err != nil || err2 != nil || v.Steps != steps || (v.Kind == api.Yes) != found.OK || (v.Kind == api.No) == found.OK {
		t.Fatalf("%+v, %+v: %+v, %v, %v", p.lists, wants, v, err, err2)
	}
	if again, err := ask.Witness(p.plan, wants, steps); err != nil || !sameVerdict(again, v) {
		t.Fatalf("%+v, %+v: %+v, then %+v: %v", p.lists, wants, v, again, err)
	}
	for _, budget := range []int{steps - 1, steps / 2, 0, -1} {
		if less, err := ask.Witness(p.plan, wants, budget); !isFault(err, api.ErrLimit, 0) || !isFailed(less, budget) {
			t.Fatalf("%+v, %+v: %+v by %d of %d: %v", p.lists, wants, less, budget, steps, err)
		}
	}
	if !found.OK {
		if !isBare(v) {
			t.Fatalf("%+v, %+v: %+v", p.lists, wants, v)
		}
		return v
	}
	want := wants[v.Way]
	test := func(doc []api.Node, n int) bool {
		tree, err := dom.New(doc)
		return err == nil && p.wants(tree, want, n)
	}
	thin, n, err := plant.Thin(v.Doc, v.Subject.Node, test)
	if err != nil || n != v.Subject.Node || !dom.Same(thin, v.Doc) || v.Subject.Pseudo != want.Pseudo || len(v.Doc) != len(found.Path) {
		t.Fatalf("%+v, %+v: %+v, then %+v: %v", p.lists, wants, v, thin, err)
	}
	return v
}

// P18.4, P18.5: what is wanted by rows' numbers: which want, and how many nodes.
func TestWitness(t *testing.T) {
	p := planOf(t, spaces(), list(t, "a b, c, d > e > f, a:not(a), .x::before, #i:hover[t]")) // the rows are 0, 1, 2, 4, 5 and 6; that of the a within :not is 3
	w := func(rows ...int) api.Want { return api.Want{All: [][]int{rows}} }
	for i, x := range []struct {
		wants      []api.Want
		want, long int
	}{
		{[]api.Want{w(0)}, 0, 2}, {[]api.Want{w(0), w(1)}, 1, 1}, {[]api.Want{w(2), w(0)}, 1, 2}, {[]api.Want{w(4), w(2), w(4)}, 1, 3}, {[]api.Want{w(4)}, 0, 0}, {nil, 0, 0}, {[]api.Want{w(4), w()}, 0, 0},
		{[]api.Want{{}}, 0, 1}, {[]api.Want{w(4), {}, {}}, 1, 1}, {[]api.Want{{All: [][]int{{1}, {5}}}}, 0, 1}, {[]api.Want{{All: [][]int{{1}, {0}}}}, 0, 0}, {[]api.Want{{All: [][]int{{6}, {1}}, None: []int{5}}}, 0, 1}, {[]api.Want{{All: [][]int{{6}, {5}}}, w(1)}, 0, 1},
		{[]api.Want{{None: []int{5}}}, 0, 1}, {[]api.Want{{All: [][]int{{1}}, None: []int{1}}}, 0, 0}, {[]api.Want{{All: [][]int{{0, 2}}, None: []int{0}}}, 0, 3}, {[]api.Want{w(-1), w(7), w(99), w(-1, 7, 0)}, 3, 2},
	} {
		for _, pseudo := range []string{"", "before", "#"} {
			for k := range x.wants {
				x.wants[k].Pseudo = pseudo
			}
			v := witness(t, p, x.wants)
			if x.long > 0 && len(p.plan.Rows) == 7 && (v.Way != x.want && i != 12 || v.Subject.Pseudo != pseudo) || len(v.Doc) != x.long {
				t.Errorf("%d: %+v", i, v)
			}
		}
	}
}

// P18.5: what no letter's element can do without stays, and what another one can goes.
func TestThinWitness(t *testing.T) {
	for s, want := range map[string]int{
		"*": 1, "a": 1, ".x": 2, ".x.y": 2, "#i.x": 3, "[t]": 2, "[u|t]": 2, "[*|t][u|t]": 2, ":hover": 2, ":hover:focus": 3, ":any-link": 2, "[t=x], .y:hover": 2, ".x:hover, .x[t], .x.y": 2, "a:not(:not(.x))": 2, ":is(.x, [t], :hover)": 2, ":not(:not([t]):not(.x))": 2, ".x > .y": 4, ".x > a, .x[t] > a": 3, ".x ~ .y": 5, ":nth-child(3 of .x)": 7, ":nth-child(3 of .x, [t]:hover)": 7, ":hover :hover:not([t])": 4, "[t^=x][t$=y].z:link": 4, "#i[t], a[t][u|t], a#i:hover": 3, "[t][u|t], [t]:hover > a": 3,
	} {
		v := questions(list(t, s), list(t, "*"), spaces())[0].get(t)
		if got := plant.Size(v.Doc); got != want {
			t.Errorf("%q: %+v, of %d and not %d", s, v.Doc, got, want)
		}
	}
}

// P18.4, P18.5: many lists, and what is wanted of them by any rows.
func TestManyWitnesses(t *testing.T) {
	long := map[int]int{}
	for seed := range uint32(350) {
		m := &maker{seed: seed, rich: seed%2 == 1}
		a, b, names := m.two()
		if !isSmall(questions(a, b, names)[3]) {
			continue
		}
		p := planOf(t, names, a, b)
		all := slices.Concat(p.plan.Lists...)
		row := func() int { return one(m, append(all[:len(all):len(all)], -1, len(p.plan.Rows))...) }
		var wants []api.Want
		for range m.pick(4) {
			w := api.Want{Pseudo: one(m, "", "before")}
			for range one(m, 1, 1, 1, 2, 0) {
				w.All = append(w.All, []int{row(), row(), row()}[:m.pick(4)])
			}
			w.None = []int{row(), row(), row()}[:m.pick(4)]
			wants = append(wants, w)
		}
		for _, wants := range [][]api.Want{wants, reach.One(p.plan, 0), reach.Both(p.plan, 0, 1), reach.Only(p.plan, 1, 0)} {
			long[len(witness(t, p, wants).Doc)]++
		}
	}
	for many, least := range []int{200, 300, 50, 20, 5} {
		if long[many] < least {
			t.Errorf("just %d have %d elements", long[many], many)
		}
	}
}

// P1, P18.1, P18.5: great witnesses.
func TestGreat(t *testing.T) {
	for _, x := range []struct {
		a, b       string
		long, size int
	}{
		{":nth-child(100000)", ":root", 100001, 100001},
		{":nth-child(20000 of .x)", ".y", 20001, 40001},
		{":nth-child(5000 of .x[t]:hover)", ":nth-child(7)", 5001, 20001},
		{":nth-child(30 of .x):nth-child(30 of [t]):nth-child(40)", "a", 41, 101},
		{".x:hover" + strings.Repeat(" > .x:hover", 300), "b", 301, 903},
		{"a" + strings.Repeat(" ~ [t]", 100), "b", 102, 202},
		{"a" + strings.Repeat(" a", 500), "a a", 0, 0},
	} {
		q := questions(list(t, x.a), list(t, x.b), spaces())[2]
		v, err := q.ask(1 << 62)
		if err != nil || len(v.Doc) != x.long || plant.Size(v.Doc) != x.size || v.Steps > q.bound {
			t.Errorf("%.60s: %d elements, %d in all, %d steps, %v", x.a, len(v.Doc), plant.Size(v.Doc), v.Steps, err)
		}
	}
}
