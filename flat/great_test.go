package flat_test

import (
	"slices"
	"strconv"
	"testing"

	"wattle/api"
	"wattle/flat"
)

// P1, P14.1: many lists with many namespaces end soon, and a wrong list among them is found.
func TestManyLists(t *testing.T) {
	const many = 20000
	var names api.Names
	var lists [][]api.Complex
	for i := range many {
		s := "n" + strconv.Itoa(i)
		names.Prefixes, names.Spaces = append(names.Prefixes, s), append(names.Spaces, s)
		c := then(one(spaced(api.NSNamed, "n"+strconv.Itoa(i%100), typ(s))), api.CombNext, class(s), state("hover"))
		lists = append(lists, list(c, one(typ("a"), nth(i, 1), pseudo("before"))))
	}
	p := planOf(t, names, lists...)
	if len(p.Atoms) != 2*many+2 || len(p.Rows) != 2*many || p.Steps != 3*many || len(p.Lists) != many || len(p.Counters) != many || !slices.Equal(p.Lists[many-1], []int{2*many - 2, 2*many - 1}) {
		t.Errorf("%d atoms, %d rows, %d steps, %d lists, %d counters", len(p.Atoms), len(p.Rows), p.Steps, len(p.Lists), len(p.Counters))
	}
	if a := p.Atoms[2*many+1]; a.Name != "class" || a.Cond.Text != "n"+strconv.Itoa(many-1) || p.Atoms[2*many].Space != "n99" {
		t.Errorf("%v", a)
	}
	if got := flat.Pseudos(p); !slices.Equal(got, []string{"", "before"}) {
		t.Errorf("%q", got)
	}
	if got := flat.Kept(p); len(got) != 3*many || got[3*many-3] != api.CombNext || got[3*many-2] != 0 || got[3*many-1] != 0 {
		t.Errorf("%v", got[3*many-3:])
	}
	if heads, rounds := flat.Spans(p); len(heads) != many || rounds[many-1] != many-1 {
		t.Errorf("%d, %d", len(heads), len(rounds))
	}
	for _, at := range []int{many - 1, 12345, 1, 0} {
		lists[at] = list(one(typ("a")), one(spaced(api.NSNamed, "x", typ("a"))))
		if _, err := flat.Make(lists, names); !isFault(err, api.ErrArg, at) {
			t.Errorf("%d: %v", at, err)
		}
	}
	lists[0] = nil
	if _, err := flat.Make(lists, names); !isFault(err, api.ErrArg, 0) {
		t.Error(err)
	}
}

// P14.1: lists within one another, as deep as they may be: counters, rows and steps of those within come ahead.
func TestDeepLists(t *testing.T) {
	c := one(typ("a"))
	for range api.MaxDeep - 1 {
		c = then(one(class("x")), api.CombBelow, nth(1, 0, c))
	}
	p := planOf(t, api.Names{}, list(c))
	if len(p.Rows) != api.MaxDeep || p.Steps != 2*api.MaxDeep-1 || len(p.Counters) != api.MaxDeep-1 || len(p.Atoms) != 2 || !slices.Equal(p.Lists[0], []int{api.MaxDeep - 1}) {
		t.Error(told(p))
	}
	for i, r := range p.Rows[1:] {
		if x := r.Steps[1].Terms[0]; r.First != 2*i+1 || x.Kind != api.TermCount || x.N != i || !slices.Equal(p.Counters[i].Rows, []int{i}) {
			t.Error(i, told(p))
		}
	}
	if _, err := flat.Make([][]api.Complex{list(one(typ("a"))), list(one(nth(1, 0, c)))}, api.Names{}); !isFault(err, api.ErrArg, 1) {
		t.Error(err)
	}
}

// P1, P14.1: a list that is its own part isn't right; nothing is gone through without an end.
func TestEndlessLists(t *testing.T) {
	round := list(one(holds(api.SelIs, one(typ("a")))), one(typ("b")))
	round[0].List[0].List[0].Of = round
	if _, err := flat.Make([][]api.Complex{list(one(typ("a"))), round}, api.Names{}); !isFault(err, api.ErrArg, 1) {
		t.Error(err)
	}
}

// P1, P14.1: one selector of many compounds, and one of many simple selectors.
func TestLongSelectors(t *testing.T) {
	const many = 50000
	long, wide := one(typ("a")), one(typ("a"))
	for i := range many {
		long.List = append(long.List, api.Compound{Comb: 1 + i%4, List: []simple{class("x")}})
		wide.List[0].List = append(wide.List[0].List, holds(api.SelNot, one(class("n"+strconv.Itoa(i%1000)))))
	}
	p := planOf(t, api.Names{}, list(long, wide))
	if len(p.Atoms) != 2+1000 || len(p.Rows) != many+2 || p.Steps != many+1+many+1 || len(p.Rows[0].Steps) != many+1 || len(p.Rows[many+1].Steps[0].Terms) != many+1 || p.Rows[many+1].First != 2*many+1 {
		t.Errorf("%d atoms, %d rows, %d steps", len(p.Atoms), len(p.Rows), p.Steps)
	}
	kept := flat.Kept(p)
	for i := range many {
		if kept[i] != 1+i%4 || kept[many+i] != 0 {
			t.Fatalf("%d: %d, %d", i, kept[i], kept[many+i])
		}
	}
}
