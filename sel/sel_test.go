package sel_test

import (
	"math"
	"slices"
	"testing"

	"wattle/api"
	"wattle/sel"
)

// P8.3: what each Kind counts, by itself, and with lists within.
func TestSpec(t *testing.T) {
	spec := func(a, b, c int) api.Spec { return api.Spec{A: a, B: b, C: c} }
	some := []api.Complex{of(typ("a"), class("b")), of(id("i")), row(class("c"), class("d"), class("e")), of(simple{Kind: api.SelAny})}
	for i, x := range []struct {
		c    api.Complex
		want api.Spec
	}{
		{api.Complex{}, spec(0, 0, 0)}, {of(), spec(0, 0, 0)}, {api.Complex{List: []api.Compound{{}, {}}}, spec(0, 0, 0)},
		{of(typ("a")), spec(0, 0, 1)}, {of(simple{Kind: api.SelAny}), spec(0, 0, 0)}, {of(class("c")), spec(0, 1, 0)}, {of(id("i")), spec(1, 0, 0)}, {of(has("t")), spec(0, 1, 0)}, {of(attr(api.OpIs, "x", api.MarkFold)), spec(0, 1, 0)}, {of(simple{Kind: api.SelRoot}), spec(0, 1, 0)}, {of(simple{Kind: api.SelLink}), spec(0, 1, 0)}, {of(state("hover")), spec(0, 1, 0)}, {of(pseudo("before")), spec(0, 0, 1)},
		{of(nth(2, 1)), spec(0, 1, 0)}, {of(nth(2, 1, of(typ("a")))), spec(0, 1, 1)}, {of(nth(2, 1, of(id("a")))), spec(1, 1, 0)}, {of(nth(2, 1, of(class("a")))), spec(0, 2, 0)}, {of(nth(0, 0, some...)), spec(1, 1, 0)}, {of(nth(0, 0, of(simple{Kind: api.SelAny}))), spec(0, 1, 0)},
		{of(within(api.SelIs, some...)), spec(1, 0, 0)}, {of(within(api.SelNot, some...)), spec(1, 0, 0)}, {of(within(api.SelWhere, some...)), spec(0, 0, 0)}, {of(within(api.SelIs)), spec(0, 0, 0)}, {of(within(api.SelNot)), spec(0, 0, 0)}, {of(within(api.SelWhere)), spec(0, 0, 0)},
		{of(within(api.SelIs, some[0], some[2])), spec(0, 3, 0)}, {of(within(api.SelNot, some[2], some[0])), spec(0, 3, 0)}, {of(within(api.SelIs, some[3], some[0], some[0])), spec(0, 1, 1)}, {of(within(api.SelIs, of(typ("a"), typ("b")), of(typ("a")))), spec(0, 0, 2)}, {of(within(api.SelNot, of(class("a")), of(typ("a"), class("a")))), spec(0, 1, 1)}, {of(within(api.SelNot, of(typ("a"), class("a")), of(class("a")))), spec(0, 1, 1)},
		{of(within(api.SelIs, of(within(api.SelWhere, some...), typ("a")))), spec(0, 0, 1)}, {of(within(api.SelWhere, of(within(api.SelIs, some...)))), spec(0, 0, 0)}, {of(nth(1, 0, of(nth(1, 0, of(nth(1, 0)))))), spec(0, 3, 0)}, {of(within(api.SelNot, of(within(api.SelIs, of(nth(1, 0, of(id("a"), typ("b")))), of(id("c"))), class("d")))), spec(1, 2, 1)},
		{of(typ("a"), within(api.SelIs, of(id("b")), of(typ("c"))), class("d")), spec(1, 1, 1)}, {row(typ("a"), typ("b"), class("c"), id("d")), spec(1, 1, 2)}, {row(within(api.SelNot, some...), within(api.SelIs, some...), within(api.SelWhere, some...), nth(1, 1, some...)), spec(3, 1, 0)},
		// What is no Kind counts nothing, and lists within count of no other Kind than those told.
		{of(simple{}, simple{Kind: 14}, simple{Kind: -1}, simple{Kind: math.MaxInt}, within(0, some...), within(99, some...)), spec(0, 0, 0)}, {of(within(api.SelID, some...), within(api.SelClass, some...), within(api.SelType, some...), within(api.SelAny, some...), within(api.SelRoot, some...), within(api.SelLink, some...)), spec(1, 3, 1)},
	} {
		if got := sel.Spec(x.c); got != x.want {
			t.Errorf("%d: %v, not %v", i, got, x.want)
		}
	}
	many := of(slices.Repeat([]simple{id("a"), class("b"), typ("c"), within(api.SelIs, of(id("d"), typ("e"))), nth(1, 1)}, 70000)...)
	if got := sel.Spec(many); got != spec(140000, 140000, 140000) {
		t.Error(got)
	}
	for _, kind := range []int{api.SelIs, api.SelNot} {
		if got := sel.Spec(nested(kind, 1<<16, of(id("a")))[0]); got != spec(1, 0, 0) {
			t.Error(got)
		}
	}
	if got := sel.Spec(nested(api.SelNth, 1<<16, of(id("a")))[0]); got != spec(1, 1<<16, 0) {
		t.Error(got)
	}
}

// P8.3: A, then B, then C, whatever the numbers.
func TestLess(t *testing.T) {
	numbers := []int{math.MinInt, -1, 0, 1, 2, 1 << 32, math.MaxInt}
	var all []api.Spec
	for _, a := range numbers {
		for _, b := range numbers {
			for _, c := range numbers {
				all = append(all, api.Spec{A: a, B: b, C: c})
			}
		}
	}
	for i, x := range all {
		for k, y := range all {
			if sel.Less(x, y) != (i < k) {
				t.Errorf("%v, %v", x, y)
			}
		}
	}
}

// P8.3: how deep lists are, and how many simple selectors they have; right or not.
func TestDeepAndSize(t *testing.T) {
	for i, x := range []struct {
		list       []api.Complex
		deep, size int
	}{
		{nil, 1, 0}, {[]api.Complex{}, 1, 0}, {[]api.Complex{{}, of()}, 1, 0}, {list(typ("a")), 1, 1}, {list(typ("a"), class("b"), id("c")), 1, 3}, {[]api.Complex{of(typ("a"), class("b")), {}, row(id("c"), id("d"), id("e"))}, 1, 5}, {[]api.Complex{of(simple{}, simple{Kind: 99})}, 1, 2},
		{list(within(api.SelIs)), 1, 1}, {list(simple{Kind: api.SelNot, Of: []api.Complex{}}), 1, 1}, {list(nth(1, 1)), 1, 1}, {list(within(api.SelIs, api.Complex{})), 2, 1}, {list(within(api.SelIs, of())), 2, 1}, {list(within(api.SelIs, of(typ("a")))), 2, 2}, {list(within(api.SelWhere, of(typ("a"), class("b")), of(id("c")))), 2, 4}, {list(within(api.SelNot, of(typ("a")))), 2, 2}, {list(nth(1, 1, of(typ("a")))), 2, 2},
		// Within every Kind.
		{list(within(api.SelType, of(typ("a")))), 2, 2}, {list(within(0, of(within(99, of(typ("a")))))), 3, 3},
		// The deepest one, wherever it stands.
		{append(nested(api.SelIs, 3, of(typ("a"))), nested(api.SelNot, 2, of(typ("b"), typ("c")))...), 4, 8}, {append(nested(api.SelIs, 2, of(typ("a"))), nested(api.SelNot, 3, of(typ("b"), typ("c")))...), 4, 8}, {[]api.Complex{row(typ("a"), within(api.SelIs, of(class("b"), within(api.SelNot, of(id("c")))), of(typ("d"))), typ("e"))}, 3, 7}, {[]api.Complex{of(within(api.SelIs, nested(api.SelIs, 1, of(typ("a")))...), within(api.SelIs, of(typ("b"))))}, 3, 5},
		{nested(api.SelIs, 31, of(typ("a"))), 32, 32}, {nested(api.SelIs, 32, of(typ("a"))), 33, 33}, {nested(api.SelIs, 100, of(typ("a")), of(typ("b"))), 101, 102}, {nested(api.SelNth, 33), 33, 33}, {nested(api.SelNot, 1<<16, of(typ("a"))), 1<<16 + 1, 1<<16 + 1},
	} {
		if deep, size := sel.Deep(x.list), sel.Size(x.list); deep != x.deep || size != x.size {
			t.Errorf("%d: %d, %d", i, deep, size)
		}
	}
	wide := nested(api.SelIs, 3, list(slices.Repeat([]simple{typ("a")}, 300000)...)...)
	if sel.Deep(wide) != 4 || sel.Size(wide) != 300003 {
		t.Error(sel.Deep(wide), sel.Size(wide))
	}
}

// P8.3: the last simple selector of the last compound alone, whatever its Name.
func TestPseudo(t *testing.T) {
	before, empty := pseudo("before"), pseudo("")
	for i, x := range []struct {
		c    api.Complex
		want string
	}{
		{api.Complex{}, ""}, {of(), ""}, {of(before), "before"}, {of(typ("a"), class("b"), pseudo("after")), "after"}, {row(typ("a"), class("b"), before), "before"}, {of(typ("a")), ""}, {of(before, class("a")), ""}, {row(before, typ("a")), ""}, {api.Complex{List: []api.Compound{{List: []simple{before}}, {}}}, ""}, {of(before, pseudo("after")), "after"}, {row(before, empty), ""}, {of(within(api.SelIs, of(before))), ""}, {of(state("hover")), ""}, {of(typ("before")), ""}, {of(simple{Kind: 14, Name: "before"}), ""},
		{of(pseudo("x\xff\x00")), "x\xff\x00"}, {of(pseudo("Before")), "Before"}, {of(simple{Kind: api.SelPseudo, Name: "marker", NS: 3, Of: list(before)}), "marker"},
	} {
		if got := sel.Pseudo(x.c); got != x.want {
			t.Errorf("%d: %q, not %q", i, got, x.want)
		}
	}
}

// P8.3: lists that differ in one thing, and such as are one.
func TestSame(t *testing.T) {
	a, b := of(typ("a")), of(class("b"))
	other := func(comb int) api.Complex {
		return api.Complex{List: []api.Compound{{List: []simple{typ("a")}}, {Comb: comb, List: []simple{typ("a")}}}}
	}
	some := [][]api.Complex{
		nil, {{}}, {{}, {}}, {of()}, {{List: []api.Compound{{Comb: 1}}}}, {{List: []api.Compound{{}, {}}}}, {a}, {b}, {a, b}, {b, a}, {a, a}, {a, b, a}, {of(typ("a"), class("b"))}, {of(class("b"), typ("a"))}, {row(typ("a"), class("b"))}, {other(0)}, {other(1)}, {other(2)}, {other(3)}, {other(4)}, {other(-1)}, {other(math.MaxInt)},
		{of(simple{})}, {of(simple{}, simple{})}, {of(simple{Kind: 1})}, {of(simple{Kind: -1})}, {of(simple{NS: 1})}, {of(simple{NS: 3})}, {of(simple{Prefix: "p"})}, {of(simple{Prefix: "P"})}, {of(simple{Name: "p"})}, {of(simple{Name: "\xff"})}, {of(simple{Name: "\xfe"})}, {of(simple{Name: "\ufffd"})}, {of(simple{Cond: api.Cond{Op: 1}})}, {of(simple{Cond: api.Cond{Op: 2}})}, {of(simple{Cond: api.Cond{Text: "p"}})}, {of(simple{Cond: api.Cond{Text: "p "}})}, {of(simple{Cond: api.Cond{Fold: true}})}, {of(simple{Mark: 1})}, {of(simple{Mark: 2})}, {of(simple{AB: api.AB{A: 1}})}, {of(simple{AB: api.AB{B: 1}})}, {of(simple{AB: api.AB{A: -1}})}, {of(simple{Of: []api.Complex{{}}})}, {of(simple{Of: []api.Complex{a}})}, {of(simple{Of: []api.Complex{a, b}})}, {of(simple{Of: []api.Complex{b, a}})}, {of(simple{Of: nested(0, 1, a)})}, {of(simple{Kind: 1, Of: nested(0, 1, a)})}, {of(simple{Of: []api.Complex{other(2)}})}, {of(simple{Of: []api.Complex{other(3)}})},
		nested(api.SelIs, 50, a), nested(api.SelIs, 50, b), nested(api.SelIs, 51, a), nested(api.SelNot, 50, a),
	}
	for i, x := range some {
		for k, y := range some {
			if sel.Same(x, y) != (i == k) {
				t.Errorf("%d, %d", i, k)
			}
			if sel.Same(x, sel.Copy(y)) != (i == k) || sel.Same(sel.Copy(x), sel.Copy(y)) != (i == k) {
				t.Errorf("%d, %d: copies", i, k)
			}
		}
	}
	for i, x := range [][2][]api.Complex{
		{nil, {}}, {{{}}, {{List: []api.Compound{}}}}, {{of()}, {of([]simple{}...)}}, {list(typ("a")), list(simple{Kind: api.SelType, Name: "a", Of: []api.Complex{}})},
	} {
		if !sel.Same(x[0], x[1]) || !sel.Same(x[1], x[0]) {
			t.Error(i)
		}
	}
	deep := nested(api.SelNot, 1<<16, a)
	if !sel.Same(deep, sel.Copy(deep)) || sel.Same(deep, nested(api.SelNot, 1<<16, b)) {
		t.Error("far down")
	}
}
