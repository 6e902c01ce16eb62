package match_test

import (
	"math"
	"slices"
	"testing"

	"wattle/api"
	"wattle/match"
)

// checkSelects holds which elements a selector selects against their places' digits.
func checkSelects(t *testing.T, doc []node, c api.Complex, which string) {
	t.Helper()
	d := tree(t, doc...)
	got := ""
	for n := -1; n <= len(doc); n++ {
		if match.Complex(d, c, api.Names{}, subject{Node: n}) {
			got += string(rune('0' + n))
		}
	}
	all := ""
	for _, s := range match.All(d, list(c), api.Names{}) {
		all += string(rune('0'+s.Node)) + s.Pseudo
	}
	if got != which || all != which {
		t.Errorf("%+v: %s, All: %s, not %s", c, got, all, which)
	}
}

// P12.1: compounds by how they stand to those ahead.
func TestCombs(t *testing.T) {
	doc := []node{el(-1, "a"), el(0, "b"), text(0), el(1, "c"), el(3, "c"), el(0, "a"), el(0, "c"), comment(0), el(6, "c"), el(0, "c")}
	a, b, c, any := one(typ("a")), one(typ("b")), typ("c"), simple{Kind: api.SelAny}
	for _, x := range []struct {
		c     api.Complex
		which string
	}{
		{then(a, api.CombChild, c), "69"}, {then(a, api.CombBelow, c), "34689"}, {then(b, api.CombBelow, c), "34"}, {then(b, api.CombChild, c), "3"}, {then(a, api.CombNext, c), "6"}, {then(a, api.CombLater, c), "69"}, {then(b, api.CombNext, c), ""}, {then(b, api.CombLater, c), "69"}, {then(b, api.CombNext, typ("a")), "5"},
		{then(one(any), api.CombBelow, any), "1345689"}, {then(one(any), api.CombLater, any), "569"}, {then(one(any), api.CombNext, any), "569"}, {then(one(any), api.CombChild, typ("a")), "5"},
		{then(then(a, api.CombBelow, c), api.CombChild, c), "48"}, {then(then(b, api.CombLater, c), api.CombBelow, c), "8"}, {then(then(a, api.CombChild, c), api.CombNext, c), "9"}, {then(then(a, api.CombNext, c), api.CombLater, c), "9"}, {then(then(then(a, api.CombBelow, any), api.CombBelow, any), api.CombBelow, any), "4"},
		{then(one(simple{Kind: api.SelRoot}), api.CombChild, any), "1569"}, {then(one(any), api.CombBelow, simple{Kind: api.SelRoot}), ""}, {then(then(one(), api.CombChild), api.CombNext), "569"},
		{api.Complex{}, ""}, {one(), "01345689"}, {then(api.Complex{}, 99, c), "34689"}, {then(one(), api.CombBelow, c), "34689"}, {then(one(typ("x")), api.CombBelow, c), ""},
	} {
		checkSelects(t, doc, x.c, x.which)
	}
	for _, comb := range []int{api.CombFirst, -1, 5, math.MinInt, math.MaxInt, 1 << 32, 1<<32 + 1} {
		checkSelects(t, doc, then(a, comb, c), "")
		checkSelects(t, doc, then(then(a, comb, c), api.CombBelow, c), "")
		checkSelects(t, doc, api.Complex{List: []api.Compound{{Comb: comb, List: []simple{c}}}}, "34689")
	}
}

// P12.1: a way that the nearest elements don't go may be gone by further ones.
func TestFurtherElements(t *testing.T) {
	doc := []node{el(-1, "a"), el(0, "b"), el(1, "b"), el(2, "c"), el(0, "a"), el(0, "x"), el(0, "b"), el(0, "c")}
	checkSelects(t, doc, then(then(one(typ("a")), api.CombChild, typ("b")), api.CombBelow, typ("c")), "3")
	checkSelects(t, doc, then(then(one(typ("b")), api.CombNext, typ("a")), api.CombLater, typ("c")), "7")
	checkSelects(t, doc, then(then(one(typ("a")), api.CombNext, typ("b")), api.CombLater, typ("c")), "")
	checkSelects(t, doc, then(then(then(one(typ("a")), api.CombBelow, typ("b")), api.CombBelow, typ("b")), api.CombChild, typ("c")), "3")
	checkSelects(t, doc, then(then(then(one(typ("a")), api.CombChild, typ("b")), api.CombLater, typ("b")), api.CombLater, typ("c")), "7")
}

// P12.1: a pseudo-element is selected by its name alone, and an element by what has none.
func TestPseudos(t *testing.T) {
	d := tree(t, el(-1, "a"), el(0, "b"), text(0))
	before, odd := one(typ("b"), pseudo("before")), one(pseudo("x"))
	for i, c := range []struct {
		c    api.Complex
		s    subject
		want bool
	}{
		{before, of(1, "before"), true}, {before, of(1, ""), false}, {before, of(1, "after"), false}, {before, of(1, "Before"), false}, {before, of(0, "before"), false}, {before, of(2, "before"), false}, {before, of(3, "before"), false}, {before, of(-1, "before"), false},
		{one(typ("b")), of(1, "before"), false}, {one(typ("b")), of(1, ""), true}, {one(), of(0, "before"), false}, {one(), of(2, ""), false}, {one(), of(math.MinInt, ""), false}, {one(), of(math.MaxInt, ""), false},
		{one(pseudo("before"), typ("b")), of(1, ""), true}, {one(pseudo("before"), typ("b")), of(1, "before"), false}, {then(one(pseudo("before")), api.CombChild, typ("b")), of(1, ""), true}, {one(pseudo("before"), pseudo("after")), of(1, "after"), true}, {one(pseudo("before"), pseudo("after")), of(1, "before"), false},
		{odd, of(0, "x"), true}, {odd, of(0, ""), false}, {one(pseudo("")), of(0, ""), true},
	} {
		if got := match.Complex(d, c.c, api.Names{}, c.s); got != c.want {
			t.Errorf("%d: %v", i, got)
		}
		if got := match.Selects(d, list(one(typ("x")), c.c), api.Names{}, c.s); got != c.want {
			t.Errorf("%d: Selects: %v", i, got)
		}
	}
	if match.Selects(d, nil, api.Names{}, of(0, "")) || match.Selects(d, list(), api.Names{}, of(0, "before")) {
		t.Error("a list without selectors")
	}
	if got := match.All(d, list(odd), api.Names{}); len(got) > 0 {
		t.Errorf("%v", got) // what has no place in the order isn't a pseudo-element
	}
}

// P12.2: all that a list selects, each once: elements in order, each with its pseudo-elements by the order of their names.
func TestAll(t *testing.T) {
	doc := []node{comment(-1), el(-1, "a"), el(1, "b"), text(2), el(1, "a"), el(2, "a")}
	d := tree(t, doc...)
	var some []api.Complex
	for _, name := range slices.Backward(elements) {
		some = append(some, one(typ("a"), pseudo(name)), one(typ("x")), then(one(typ("b")), api.CombBelow, typ("a"), pseudo(name)))
	}
	some = append(some, one(typ("b")), one(typ("a")), one(typ("a")), one(typ("b"), pseudo("marker")))
	var want []subject
	for _, n := range []int{1, 2, 4, 5} {
		want = append(want, of(n, ""))
		for _, name := range elements {
			if n != 2 || name == "marker" {
				want = append(want, of(n, name))
			}
		}
	}
	if got := match.All(d, some, api.Names{}); !slices.Equal(got, want) {
		t.Errorf("%v, not %v", got, want)
	}
	if got := match.All(d, nil, api.Names{}); len(got) > 0 {
		t.Errorf("%v", got)
	}
	if got := match.All(d, list(api.Complex{}, one(typ("x"))), api.Names{}); len(got) > 0 {
		t.Errorf("%v", got)
	}
}

// P12.2: the greatest specificity of the selectors that select, wherever they stand; those that don't aren't looked at.
func TestSpec(t *testing.T) {
	d := tree(t, el(-1, "a", "class", "x", "id", "i"), el(0, "b"))
	a, x, i, no := one(typ("a")), one(class("x")), one(id("i")), one(id("i"), id("i"), id("j"))
	before := one(id("i"), pseudo("before"))
	for k, c := range []struct {
		list []api.Complex
		s    subject
		spec api.Spec
		ok   bool
	}{
		{list(a, x, i, no, before), of(0, ""), api.Spec{A: 1}, true}, {list(i, a, x), of(0, ""), api.Spec{A: 1}, true}, {list(no, a, x, a), of(0, ""), api.Spec{B: 1}, true}, {list(before, a, no), of(0, ""), api.Spec{C: 1}, true}, {list(before, a, i), of(0, "before"), api.Spec{A: 1, C: 1}, true},
		{list(one()), of(1, ""), api.Spec{}, true}, {list(one(holds(api.SelWhere, i))), of(0, ""), api.Spec{}, true}, {list(one(holds(api.SelIs, a, no))), of(0, ""), api.Spec{A: 3}, true},
		{list(a, x, i), of(1, ""), api.Spec{}, false}, {list(before), of(0, ""), api.Spec{}, false}, {nil, of(0, ""), api.Spec{}, false}, {list(one()), of(2, ""), api.Spec{}, false}, {list(one()), of(-1, ""), api.Spec{}, false},
	} {
		if spec, ok := match.Spec(d, c.list, api.Names{}, c.s); spec != c.spec || ok != c.ok {
			t.Errorf("%d: %v, %v", k, spec, ok)
		}
		if got := match.Selects(d, c.list, api.Names{}, c.s); got != c.ok {
			t.Errorf("%d: %v", k, got)
		}
	}
}
