package ask_test

import (
	"slices"
	"strings"
	"testing"

	"wattle/api"
	"wattle/ask"
	"wattle/flat"
	"wattle/reach"
	"wattle/sel"
)

// P18.2: how many nodes a witness of what a list selects has; 0, if it selects nothing.
func TestSatisfiable(t *testing.T) {
	for s, want := range map[string]int{
		"*": 1, "a": 1, ".x#i[t]:hover": 1, ":root": 1, "a::before": 1, ":any-link": 1, "u|a[v|t]": 1, "[t^=x][t$=y]": 1, "a > b": 2, "a b": 2, "a > b + c": 3, "a ~ b:not(a + b)": 4, "* *": 2, ":nth-child(2n):nth-child(3n)": 7, ":nth-child(3 of .x)": 4, "a:not(a), b > c": 2, "a:not(a)::before, b::after": 1, "a b:not(a > b)": 3,
		"a:not(a)": 0, ":nth-child(2n):nth-child(2n+1)": 0, "a:not(a), b b:not(b b)": 0, ":root + *": 0, "[t=x][t=y]": 0, "a:not(a)::before": 0, ":not(*)": 0, ":nth-child(0)": 0, "* > :root": 0, ":is(a:not(a)) b": 0,
	} {
		q := questions(list(t, s), list(t, "*"), spaces())[0]
		v := q.get(t)
		if len(v.Doc) != want || (v.Kind == api.Yes) != (want > 0) {
			t.Errorf("%q: %+v, not of %d", s, v, want)
		}
	}
}

// P18.2: of two lists how many nodes the witness has that both select one thing, that just the first one selects something, and that just the second one does; 0, if there is none.
func TestTwoLists(t *testing.T) {
	for _, x := range []struct {
		a, b             string
		both, only, back int
	}{
		{"a", "a", 1, 0, 0}, {"a", "b", 0, 1, 1}, {"a", ".x", 1, 1, 1}, {"*", "a, :not(a)", 1, 0, 0}, {"a b", "b", 2, 0, 1}, {"a > b", "a b", 2, 0, 3}, {"a b", "a > b", 2, 3, 0}, {"a + b", "a ~ b", 3, 0, 4}, {"a + b", "a b", 3, 3, 2}, {".x", "#i", 1, 1, 1}, {":root", ":first-child", 1, 0, 2}, {"* + *", ":not(:first-child)", 3, 0, 0},
		{":nth-child(2n)", ":nth-child(3n)", 7, 3, 4}, {":nth-child(4n)", ":nth-child(2n)", 5, 0, 3}, {":nth-child(2n)", ":nth-child(4n), :nth-child(4n+2)", 3, 0, 0}, {":nth-child(2 of a)", "a ~ a:not(a ~ a ~ a)", 3, 0, 0},
		{"a::before", "::before", 1, 0, 1}, {"a::before", "a", 0, 1, 1}, {"a::before, b", "a, b::before", 0, 1, 1}, {"a::before, b", "c::after, b", 1, 1, 1}, {"a b::before", "b::before, b", 2, 0, 1}, {"a:not(a)", "a", 0, 0, 1}, {"a:not(a)", "b:not(b)", 0, 0, 0},
		{"[t=x]", "[t^=x]", 1, 0, 1}, {"[t=x]", "[t=x i]", 1, 0, 1}, {"[t|=en]", "[t=en], [t^=en-]", 1, 0, 0}, {"u|a", "a", 1, 0, 1}, {":any-link", "[href]", 1, 0, 1}, {".x", "[class~=x]", 1, 0, 0}, {"#x", "[id=x]", 1, 0, 0},
		{"a b.x", "c > .y:not(:first-child)", 4, 2, 3},
	} {
		q := questions(list(t, x.a), list(t, x.b), spaces())
		both, only, same := q[1].get(t), q[2].get(t), q[3].get(t)
		if len(both.Doc) != x.both || (both.Kind == api.Yes) != (x.both > 0) {
			t.Errorf("%q, %q: overlap: %+v", x.a, x.b, both)
		}
		if len(only.Doc) != x.only || (only.Kind == api.No) != (x.only > 0) {
			t.Errorf("%q, %q: contained: %+v", x.a, x.b, only)
		}
		way, many := api.WayNone, 0
		if x.back > 0 {
			way, many = api.WayBack, x.back
		}
		if x.only > 0 {
			way, many = api.WayFirst, x.only
		}
		if same.Way != way || len(same.Doc) != many || (same.Kind == api.No) != (way != api.WayNone) {
			t.Errorf("%q, %q: equivalent: %+v", x.a, x.b, same)
		}
	}
}

// P18.1: the lists' errors, ahead of those of budgets, and none that there isn't.
func TestErrors(t *testing.T) {
	right, wrong := list(t, "a"), []api.Complex{{List: []api.Compound{{List: []api.Simple{{Kind: api.SelClass}}}}}}
	foreign := []api.Complex{{List: []api.Compound{{List: []api.Simple{{Kind: api.SelType, NS: api.NSNamed, Prefix: "w", Name: "a"}}}}}}
	badNames := api.Names{Prefixes: []string{"u", "u"}, Spaces: []string{"", ""}}
	if sel.CheckNames(badNames) == nil || sel.Check(wrong, spaces()) == nil || sel.Check(foreign, spaces()) == nil {
		t.Fatal("they are right")
	}
	for i, x := range []struct {
		a, b  []api.Complex
		names api.Names
		at    int // of two lists
		alone bool
	}{
		{nil, right, spaces(), 0, true}, {right, nil, spaces(), 1, false}, {nil, nil, spaces(), 0, true}, {wrong, right, spaces(), 0, true}, {right, wrong, spaces(), 1, false}, {wrong, wrong, spaces(), 0, true}, {foreign, right, spaces(), 0, true}, {right, foreign, spaces(), 1, false}, {right, foreign, badNames, 0, true}, {right, right, badNames, 0, true},
	} {
		for k, q := range questions(x.a, x.b, x.names) {
			_, want := flat.Make([][]api.Complex{x.a, x.b}[:min(k+1, 2)], x.names)
			for _, budget := range []int{-1, 0, enough} {
				v, err := q.ask(budget)
				if k == 0 && !x.alone {
					if budget == enough && (err != nil || v.Kind != api.Yes) {
						t.Errorf("%d: %+v, %v", i, v, err)
					}
					continue
				}
				f, ok := want.(*api.Fault)
				if !ok || f.At != x.at && len(x.names.Prefixes) == 2 && x.names.Prefixes[0] != x.names.Prefixes[1] || !isFault(err, f.Kind, f.At) || !isFailed(v, 0) {
					t.Errorf("%d, %d: %+v, %v, not %v", i, k, v, err, want)
				}
			}
		}
		bound := ask.Bound(x.a, x.b, x.names)
		if alone := len(x.b) == 0 && len(x.a) > 0; !alone && bound != 0 || alone && bound != ask.Bound(right, nil, spaces()) {
			t.Errorf("%d: Bound %d", i, bound)
		}
	}
}

// P18.3: twice layer 16's Bound, of one list and of two, up to 2^62.
func TestBound(t *testing.T) {
	for i, x := range []struct{ a, b string }{
		{"a", "b"}, {"a", "a"}, {"a b", "a > b"}, {":nth-child(7)", ".x"}, {"[t=x]", "[u|t=y]"}, {"a" + strings.Repeat(" a", 30), "a"}, {"a" + strings.Repeat(" a", 100), "a"}, {strings.Repeat("#i ", 54) + "#i", "#i"},
	} {
		a, b := list(t, x.a), list(t, x.b)
		for _, lists := range [][][]api.Complex{{a}, {a, b}, {b, a}, {b}} {
			p, err := flat.Make(lists, spaces())
			if err != nil {
				t.Fatal(err)
			}
			got, one := ask.Bound(lists[0], slices.Concat(lists[1:]...), spaces()), reach.Bound(p)
			if one > 1<<61 && got != 1<<62 || one <= 1<<61 && got != 2*one || one <= 0 {
				t.Errorf("%d: %d, %d", i, got, one)
			}
		}
	}
	if got := ask.Bound(list(t, "a"), nil, spaces()); got != 2*(4*2+1+(4*2+1)*2) {
		t.Error(got)
	}
	if got := ask.Bound(list(t, "a"+strings.Repeat(" a", 100)), nil, spaces()); got != 1<<62 {
		t.Error(got)
	}
}

// P18.1, P2: budgets from far below on: none that is below what is needed is enough, and all others are alike.
func TestBudgets(t *testing.T) {
	for _, x := range []struct{ a, b string }{{"a", "b"}, {"a b", "b"}, {"a", "a.x, a:not(.x)"}, {"a:not(a)", "b"}, {"a::before", "a"}} {
		for i, q := range questions(list(t, x.a), list(t, x.b), spaces()) {
			v := q.get(t)
			for budget := range v.Steps + 20 {
				got, err := q.ask(budget)
				if budget < v.Steps && (!isFault(err, api.ErrLimit, 0) || !isFailed(got, budget)) || budget >= v.Steps && (err != nil || !sameVerdict(got, v)) {
					t.Errorf("%v, %d: %+v by %d of %d: %v", x, i, got, budget, v.Steps, err)
				}
			}
		}
	}
}
