package sel_test

import (
	"math"
	"testing"

	"wattle/api"
	"wattle/sel"
)

// spaces are right namespaces, with a prefix that is no name of a style sheet as it stands.
func spaces() api.Names {
	return api.Names{HasDefault: true, Default: "d", Prefixes: []string{"p", "1 "}, Spaces: []string{"u", ""}}
}

// check holds Check of a list against what it should be.
func check(t *testing.T, what any, some []api.Complex, want api.Errno) {
	t.Helper()
	if err := sel.Check(some, spaces()); !isFault(err, want) {
		t.Errorf("%v: %v, not %v", what, err, want)
	}
}

// P8.2: each Kind with all that it may have, alone and within others.
func TestRightSimples(t *testing.T) {
	some := []simple{
		typ("a"), typ("A"), typ("é €\U0001f600"), typ("1"), typ("-"), typ(" "), typ("\ufeff"), {Kind: api.SelType, NS: api.NSAny, Name: "a"}, {Kind: api.SelType, NS: api.NSEmpty, Name: "a"}, {Kind: api.SelType, NS: api.NSNamed, Prefix: "p", Name: "a"}, {Kind: api.SelType, NS: api.NSNamed, Prefix: "1 ", Name: "*"},
		{Kind: api.SelAny}, {Kind: api.SelAny, NS: api.NSAny}, {Kind: api.SelAny, NS: api.NSEmpty}, {Kind: api.SelAny, NS: api.NSNamed, Prefix: "p"},
		class("c"), class("\x01"), id("i"), id("#"), {Kind: api.SelRoot}, {Kind: api.SelLink},
		has("t"), {Kind: api.SelAttr, NS: api.NSAny, Name: "t", Cond: api.Cond{Op: api.OpHas}}, {Kind: api.SelAttr, NS: api.NSEmpty, Name: "t", Cond: api.Cond{Op: api.OpIs}}, {Kind: api.SelAttr, NS: api.NSNamed, Prefix: "p", Name: "t", Cond: api.Cond{Op: api.OpPart, Text: "x"}},
		nth(0, 0), nth(2, 1), nth(api.MaxNth, -api.MaxNth), nth(-api.MaxNth, api.MaxNth), nth(-1, 0, of(typ("a"), class("b")), of(nth(0, 1))), {Kind: api.SelNth, Of: []api.Complex{}},
		within(api.SelIs, of(typ("a"))), within(api.SelWhere, row(typ("a"), class("b")), of(id("c"))), within(api.SelNot, of(within(api.SelNot, of(simple{Kind: api.SelAny})))),
	}
	for op := api.OpIs; op <= api.OpPart; op++ {
		some = append(some, attr(op, "x", api.MarkNone), attr(op, "", api.MarkFold), attr(op, "\"a b\n\ufeff", api.MarkExact))
	}
	for _, name := range states {
		some = append(some, state(name))
	}
	for i, s := range some {
		check(t, i, list(s), 0)
		check(t, i, list(class("x"), s), 0)
		check(t, i, []api.Complex{row(s, s, s)}, 0)
		for _, kind := range []int{api.SelIs, api.SelWhere, api.SelNot, api.SelNth} {
			check(t, i, list(within(kind, of(s), row(typ("x"), s))), 0)
		}
	}
	for _, name := range pseudos {
		check(t, name, list(pseudo(name)), 0)
		check(t, name, []api.Complex{of(typ("a"), class("b"), pseudo(name)), row(typ("a"), pseudo(name))}, 0)
	}
}

// P8.2: names and texts that aren't right, numbers that are too great, and what a Kind may not have.
func TestWrongSimples(t *testing.T) {
	var some []simple
	for _, name := range []string{"", "\x00", "a\x00", "\xff", "a\xe2\x82", "\xed\xa0\x80", "\xc0\x80", "\xf4\x90\x80\x80"} {
		some = append(some, typ(name), class(name), id(name), has(name), state(name), pseudo(name))
		if name != "" {
			some = append(some, attr(api.OpIs, name, api.MarkNone), attr(api.OpWord, name, api.MarkFold))
		}
	}
	for _, n := range []int{api.MaxNth + 1, -api.MaxNth - 1, math.MaxInt, math.MinInt, 1 << 32, -1 << 32} {
		some = append(some, nth(n, 0), nth(0, n), nth(n, n), nth(1, n, of(typ("a"))))
	}
	for _, n := range []int{math.MinInt, -1, 0, 14, 15, 1 << 32, 1<<32 + 3, math.MaxInt} {
		some = append(some, simple{Kind: n}, simple{Kind: n, Name: "a"}, within(n, of(typ("a"))))
	}
	for _, n := range []int{math.MinInt, -1, 4, 1 << 32, math.MaxInt} {
		some = append(some, simple{Kind: api.SelType, NS: n, Name: "a"}, simple{Kind: api.SelAny, NS: n}, simple{Kind: api.SelAttr, NS: n, Name: "a", Cond: api.Cond{Op: api.OpHas}}, simple{Kind: api.SelAny, NS: n, Prefix: "p"})
	}
	for _, prefix := range []string{"", "q", "P", "p ", "d", "u", "\xff"} {
		some = append(some, simple{Kind: api.SelType, NS: api.NSNamed, Prefix: prefix, Name: "a"}, simple{Kind: api.SelAny, NS: api.NSNamed, Prefix: prefix}, simple{Kind: api.SelAttr, NS: api.NSNamed, Prefix: prefix, Name: "a", Cond: api.Cond{Op: api.OpHas}})
	}
	some = append(some,
		state("before"), state("root"), state("Hover"), pseudo("hover"), pseudo("BEFORE"), pseudo("x"),
		attr(0, "", 0), attr(8, "x", 0), attr(-1, "", 0), attr(math.MinInt, "", 0), attr(1<<32+2, "x", 0), attr(api.OpHas, "x", 0), attr(api.OpHas, "", api.MarkFold), attr(api.OpHas, "", api.MarkExact), attr(api.OpIs, "x", 3), attr(api.OpIs, "x", -1),
		simple{Kind: api.SelAttr, Name: "t", Cond: api.Cond{Op: api.OpIs, Fold: true}}, simple{Kind: api.SelAttr, Name: "t", Cond: api.Cond{Op: api.OpIs}, Mark: api.MarkFold}, simple{Kind: api.SelAttr, Name: "t", Cond: api.Cond{Op: api.OpIs, Fold: true}, Mark: api.MarkExact}, simple{Kind: api.SelAttr, Name: "t", Cond: api.Cond{Op: api.OpHas, Fold: true}}, simple{Kind: api.SelAttr, Name: "t"},
		within(api.SelIs), within(api.SelWhere), within(api.SelNot), simple{Kind: api.SelIs, Of: []api.Complex{}},
	)
	for i, s := range some {
		check(t, i, list(s), api.ErrForm)
		check(t, i, []api.Complex{of(typ("a")), of(id("b"), s)}, api.ErrForm)
		check(t, i, []api.Complex{row(s, typ("a")), of(typ("a"))}, api.ErrForm)
		for _, kind := range []int{api.SelIs, api.SelWhere, api.SelNot, api.SelNth} {
			check(t, i, list(within(kind, of(typ("a")), of(class("b"), within(api.SelNot, of(s))))), api.ErrForm)
		}
	}
}

// P8.2: every Kind with every field, held against the chapter's words.
func TestFieldsByWords(t *testing.T) {
	prefixes := spaces().Prefixes
	right := 0
	for kind := -1; kind <= 15; kind++ {
		for ns := -1; ns <= 4; ns++ {
			for _, prefix := range []string{"", "p", "q"} {
				for _, name := range []string{"", "hover", "before", "a\x00"} {
					for _, cond := range []api.Cond{{}, {Op: api.OpHas}, {Op: api.OpIs}, {Op: api.OpIs, Text: "x"}, {Op: api.OpPart, Text: "x", Fold: true}, {Op: api.OpHas, Fold: true}, {Op: api.OpHas, Text: "x"}, {Op: 8}, {Text: "x"}, {Fold: true}, {Op: api.OpDash, Text: "\x00"}} {
						for mark := -1; mark <= 3; mark++ {
							for _, ab := range []api.AB{{}, {A: 1}, {B: -1}, {B: 1000001}} {
								for _, some := range [][]api.Complex{nil, {}, list(class("c")), {of()}, list(pseudo("after"))} {
									s := simple{Kind: kind, NS: ns, Prefix: prefix, Name: name, Cond: cond, Mark: mark, AB: ab, Of: some}
									want := rightByWords(list(s), prefixes, false)
									if want {
										right++
									}
									if err := sel.Check(list(s), spaces()); !isFault(err, 0) && !isFault(err, api.ErrForm) || (err == nil) != want {
										t.Fatalf("%+v: %v", s, err)
									}
								}
							}
						}
					}
				}
			}
		}
	}
	if right < 100 {
		t.Errorf("just %d right ones", right)
	}
}

// P8.2: what stands where in a compound, and in a selector, held against the chapter's words.
func TestPlacesByWords(t *testing.T) {
	some := []simple{typ("a"), {Kind: api.SelAny}, class("b"), pseudo("before"), {Kind: api.SelRoot}, within(api.SelNot, of(pseudo("before"))), nth(1, 0, of(class("a"), typ("b"))), within(api.SelIs, of(typ("a"), class("b"))), state("x")}
	compounds := [][]simple{nil, {}}
	for _, a := range some {
		compounds = append(compounds, []simple{a})
		for _, b := range some {
			compounds = append(compounds, []simple{a, b})
			for _, c := range some {
				compounds = append(compounds, []simple{a, b, c})
			}
		}
	}
	for i, one := range compounds {
		try := func(list ...api.Compound) {
			for _, whole := range [][]api.Complex{{{List: list}}, {of(id("x")), {List: list}}, {{List: list}, of(id("x"))}, {of(within(api.SelNot, api.Complex{List: list}))}} {
				want := rightByWords(whole, nil, false)
				if err := sel.Check(whole, api.Names{}); !isFault(err, 0) && !isFault(err, api.ErrForm) || (err == nil) != want {
					t.Fatalf("%+v: %v", whole, err)
				}
			}
		}
		for comb := -1; comb <= 5; comb++ {
			try(api.Compound{Comb: comb, List: one})
			for _, two := range [][]simple{{class("y")}, {pseudo("after")}, {}, {typ("z")}, compounds[(i*7+comb+1)%len(compounds)]} {
				try(api.Compound{List: one}, api.Compound{Comb: comb, List: two})
				try(api.Compound{List: two}, api.Compound{Comb: comb, List: one})
				try(api.Compound{Comb: comb, List: two}, api.Compound{Comb: comb, List: one})
				try(api.Compound{List: two}, api.Compound{Comb: api.CombLater, List: one}, api.Compound{Comb: comb, List: two})
			}
		}
	}
	check(t, "", nil, api.ErrForm)
	check(t, "", []api.Complex{}, api.ErrForm)
	check(t, "", []api.Complex{{}}, api.ErrForm)
	check(t, "", []api.Complex{of(typ("a")), {List: []api.Compound{}}}, api.ErrForm)
	for _, comb := range []int{math.MinInt, math.MaxInt, 1 << 32, 1<<32 + 1} {
		check(t, comb, []api.Complex{{List: []api.Compound{{Comb: comb, List: []simple{typ("a")}}}}}, api.ErrForm)
		check(t, comb, []api.Complex{{List: []api.Compound{{List: []simple{typ("a")}}, {Comb: comb, List: []simple{typ("a")}}}}}, api.ErrForm)
	}
}

// P8.2: 32 lists in one another may be, 33 may not; that is told ahead of what isn't right.
func TestDepth(t *testing.T) {
	for _, kind := range []int{api.SelIs, api.SelWhere, api.SelNot, api.SelNth} {
		for times := range 40 {
			want := api.Errno(0)
			if times > 31 {
				want = api.ErrDeep
			}
			deep := nested(kind, times, of(class("a")))
			check(t, times, deep, want)
			check(t, times, append(list(typ("b")), deep...), want)
			check(t, times, []api.Complex{{List: []api.Compound{{List: []simple{typ("a")}}, {Comb: api.CombNext, List: []simple{class("b"), deep[0].List[0].List[0]}}, {Comb: api.CombChild, List: []simple{id("c")}}}}}, want)
			if times > 0 {
				check(t, times, nested(api.SelIs, times-1, of(class("x")), row(typ("a"), within(kind, of(class("y")), of(typ("z")))), of(typ("b"))), want)
			}
			if want == 0 {
				want = api.ErrForm
			}
			check(t, times, append(deep, of()), want)
			check(t, times, append([]api.Complex{{}}, deep...), want)
			check(t, times, nested(kind, times, of(typ(""))), want)
		}
	}
	// An empty list within is none, but where none may be.
	check(t, "", nested(api.SelIs, 31, of(nth(1, 1))), 0)
	check(t, "", nested(api.SelIs, 32, of(nth(1, 1))), api.ErrDeep)
	check(t, "", nested(api.SelIs, 32), api.ErrForm)
	check(t, "", nested(api.SelIs, 33), api.ErrDeep)
	// Lists within count wherever they stand, also where a Kind has none.
	for _, kind := range []int{api.SelType, api.SelPseudo, 0, 99, -1} {
		check(t, kind, nested(kind, 32, of(typ("a"))), api.ErrDeep)
		check(t, kind, nested(kind, 31, of(typ("a"))), api.ErrForm)
	}
	check(t, "far", nested(api.SelIs, 1<<16, of(typ("a"))), api.ErrDeep)
}

// P1, P8.2: a list that is its own part is too deep; nothing is gone through without an end.
func TestEndlessDepth(t *testing.T) {
	round := list(typ("a"), typ("b"))
	round[0].List[0].List[0] = within(api.SelIs, round...)
	round[1].List[0].List[0] = within(api.SelNot, round...)
	round[0].List[0].List[0].Of = round
	round[1].List[0].List[0].Of = round
	check(t, "", round, api.ErrDeep)
}
