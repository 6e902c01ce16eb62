package local_test

import (
	"math"
	"testing"

	"wattle/api"
	"wattle/local"
)

// P13.1: each kind, its edges, and kinds that there aren't.
func TestHolds(t *testing.T) {
	x := api.Attr{Name: "t", Value: "x"}
	ux := api.Attr{Space: "u", Name: "t", Value: "x y"}
	hover := in(el("u", "a"), "focus", "hover")
	for i, c := range []struct {
		a    atom
		n    node
		want bool
	}{
		{typ("a"), el("", "a"), true}, {typ("a"), el("u", "a"), true}, {typ("a"), el("", "b"), false}, {typ("a"), el("", "A"), false}, {typ("a"), el("a", "b"), false}, {typ("a"), el("", "ab"), false},
		{typ(""), el("", "a"), true}, {typ(""), el("u", "b"), true}, {typ(""), el("", ""), true},
		{within("u", typ("a")), el("u", "a"), true}, {within("u", typ("a")), el("", "a"), false}, {within("u", typ("a")), el("U", "a"), false}, {within("u", typ("a")), el("u", "b"), false}, {within("", typ("a")), el("", "a"), true}, {within("", typ("a")), el("u", "a"), false},
		{within("u", typ("")), el("u", "a"), true}, {within("u", typ("")), el("v", "a"), false}, {within("", typ("")), el("", "b"), true}, {within("", typ("")), el("u", "b"), false},
		{atom{Kind: api.AtomType, Space: "u", Name: "a"}, el("v", "a"), true}, {atom{Kind: api.AtomType, Name: "a", Cond: api.Cond{Op: 9}}, el("", "a"), true}, {typ("t"), el("", "a", x), false}, {typ("hover"), hover, false},
		{attr("t", is, "x"), el("", "a", x), true}, {attr("t", is, "x"), el("", "a"), false}, {attr("t", is, "y"), el("", "a", x), false}, {attr("T", is, "x"), el("", "a", x), false}, {attr("t", has, ""), el("", "a", x), true}, {attr("t", has, ""), el("", "t"), false}, {attr("t", word, "y"), el("", "a", ux), true}, {attr("t", word, "y"), el("", "a", x, ux), true}, {attr("t", word, "y"), el("", "a", ux, x), true}, {attr("t", is, "X"), el("", "a", x), false}, {alike(attr("t", is, "X")), el("", "a", x), true},
		{within("", attr("t", word, "x")), el("", "a", x), true}, {within("", attr("t", word, "x")), el("", "a", ux), false}, {within("u", attr("t", word, "x")), el("", "a", ux), true}, {within("u", attr("t", word, "x")), el("u", "a", x), false}, {within("u", attr("t", is, "x")), el("", "a", x, ux), false}, {within("", attr("t", is, "x")), el("u", "a", ux, x), true}, {within("u", attr("t", is, "x")), el("", "a", api.Attr{Space: "u", Name: "r", Value: "x"}, x), false},
		{attr("t", 0, "x"), el("", "a", x), false}, {attr("t", 9, "x"), el("", "a", x), false}, {attr("t", word, ""), el("", "a", api.Attr{Name: "t"}), false}, {attr("t", is, ""), el("", "a", api.Attr{Name: "t"}), true}, {atom{Kind: api.AtomAttr, Space: "v", Name: "t", Cond: api.Cond{Op: has}}, el("", "a", ux), true},
		{attr("", has, ""), el("", "", api.Attr{}), true}, {attr("", has, ""), el("", ""), false},
		{state("hover"), hover, true}, {state("focus"), hover, true}, {state("active"), hover, false}, {state("hover"), el("hover", "hover"), false}, {state("Hover"), hover, false}, {within("v", state("hover")), hover, true}, {state("x"), in(el("", "a"), "x"), true}, {state(""), hover, false},
		{atom{Name: "a"}, el("", "a"), false}, {atom{}, el("", ""), false}, {atom{Kind: 4, Name: "hover"}, hover, false}, {atom{Kind: -1, Name: "a"}, el("", "a"), false}, {atom{Kind: 1<<32 + 1, Name: "a"}, el("", "a"), false}, {atom{Kind: math.MinInt}, el("", "a"), false}, {atom{Kind: math.MaxInt}, el("", "a"), false},
	} {
		if got := local.Holds(c.a, c.n); got != c.want || holds(c.a, c.n) != c.want {
			t.Errorf("%d: %t of %v of %v", i, got, c.a, c.n)
		}
	}
}

// wrong are texts that aren't right values.
var wrong = []string{"\x00", "a\x00", "\xff", "a\xe2\x82", "\xed\xa0\x80", "\xc0\x80", "\xf4\x90\x80\x80"}

// right are atoms that are right, at the edges.
func right() []atom {
	out := list(typ(""), typ("a"), typ("é €\U0001f600\ufeff\x01"), within("", typ("")), within("\ufffd ", typ("hover")), attr("t", has, ""), attr("t", has, "x"), attr("\n", 0, "x"), attr("t", 9, ""), attr("t", math.MinInt, "a b"), alike(within("u", attr("hover", is, "\ufeff"))),
		atom{Kind: api.AtomType, Space: "u"}, atom{Kind: api.AtomAttr, Space: "u", Name: "t"}, atom{Kind: api.AtomState, HasSpace: true, Space: "u", Name: "hover", Cond: api.Cond{Op: 9, Text: "x", Fold: true}}, atom{Kind: api.AtomType, Cond: api.Cond{Op: -1, Text: "x", Fold: true}})
	for _, name := range states {
		out = append(out, state(name))
	}
	return out
}

var states = []string{"hover", "active", "focus", "focus-visible", "visited", "link", "checked", "disabled", "enabled", "target"}

// faulty are atoms that aren't right.
func faulty() []atom {
	out := list(atom{}, atom{Name: "a"}, atom{Kind: 4, Name: "hover"}, atom{Kind: -1, Name: "a"}, atom{Kind: 1<<32 + 1, Name: "a"}, atom{Kind: math.MinInt, Name: "a"}, atom{Kind: math.MaxInt, Name: "a"},
		attr("", has, ""), within("u", attr("", is, "x")), state(""), state("Hover"), state("hover "), state("root"), state("before"), state("a"), state("hove"))
	for _, s := range wrong {
		out = append(out, typ(s), attr(s, has, ""), state(s), within(s, typ("a")), within(s, typ("")), within(s, attr("t", has, "")), within(s, state("hover")))
		for _, a := range list(typ("a"), attr("t", has, ""), state("hover")) {
			a.Space = s
			out = append(out, a)
			a.Space, a.Cond.Text = "", s
			out = append(out, a)
		}
	}
	return out
}

// P13.1, P13.2, P13.3: the first atom that isn't right, whatever the budget; of right ones there is no fault.
func TestCheck(t *testing.T) {
	all := right()
	if err := local.Check(all); err != nil {
		t.Error(err)
	}
	if err := local.Check(nil); err != nil {
		t.Error(err)
	}
	for i, a := range all {
		if err := local.Check(list(a)); err != nil || local.Bound(list(a)) < 5 {
			t.Errorf("%d: %v", i, err)
		}
	}
	for i, a := range faulty() {
		for at := range 4 {
			some := append(all[i%9:i%9+at:i%9+at], a, typ("a"), atom{})
			if err := local.Check(some); !isFault(err, api.ErrArg, at) {
				t.Errorf("%d: %v", i, err)
			}
			for _, budget := range []int{math.MinInt, -1, 0, 1, enough, math.MaxInt} {
				if out, steps, err := local.Letters(some, budget); !isFault(err, api.ErrArg, at) || len(out) > 0 || steps != 0 {
					t.Errorf("%d: %d, %d, %v", i, len(out), steps, err)
				}
			}
			if got := local.Bound(some); got != 0 {
				t.Errorf("%d: %d", i, got)
			}
		}
	}
}
