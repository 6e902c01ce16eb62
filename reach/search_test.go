package reach_test

import (
	"errors"
	"testing"

	"wattle/api"
	"wattle/reach"
)

// at tells the place of a fault.
func at(err error) int {
	var f *api.Fault
	if !errors.As(err, &f) {
		return -1
	}
	return f.At
}

// search looks with the budget that is promised to be enough, and with budgets around what is needed, and holds what is found against layer 12.
func search(t *testing.T, a asked, wants []api.Want) api.Found {
	t.Helper()
	f, steps, err := reach.Search(a.plan, wants, reach.Bound(a.plan))
	if err != nil || steps > reach.Bound(a.plan) || len(f.Path) >= steps {
		t.Fatalf("%+v, %+v: %d steps, a path of %d: %v", a.lists, wants, steps, len(f.Path), err)
	}
	if again, n, err := reach.Search(a.plan, wants, steps); err != nil || n != steps || !same(again, f) {
		t.Fatalf("%+v, %+v: %+v by %d steps, then %+v by %d: %v", a.lists, wants, f, steps, again, n, err)
	}
	if less, n, err := reach.Search(a.plan, wants, steps-1); !errors.Is(err, api.ErrLimit) || at(err) != 0 || n < 0 || n >= steps || !isZero(less) {
		t.Fatalf("%+v, %+v: %+v by %d of %d steps: %v", a.lists, wants, less, n, steps, err)
	}
	if f.OK {
		checkPath(t, a, wants, f)
	} else if !isZero(f) {
		t.Fatalf("%+v, %+v: %+v", a.lists, wants, f)
	}
	return f
}

// checkPath tells whether a path is right, and the last element of its document one that the want wants, and none ahead of that.
func checkPath(t *testing.T, a asked, wants []api.Want, f api.Found) {
	t.Helper()
	for i, m := range f.Path {
		if m.Node.Parent != -1 || m.Node.Kind != api.NodeElement || m.Down != (i == 1) && i < 2 {
			t.Fatalf("%+v, %+v: %+v", a.lists, wants, f)
		}
	}
	tree := treeOf(t, docOf(f.Path))
	if got := a.wanted(tree, wants, len(f.Path)-1); got != f.Want {
		t.Fatalf("%+v, %+v: %+v, not %d", a.lists, wants, f, got)
	}
}

// P16.2: how many elements the least path to an element that one list selects has; 0, if there is none.
func TestSearch(t *testing.T) {
	for s, want := range map[string]int{
		// One element.
		"*": 1, "a": 1, ".x": 1, "#i": 1, "[t]": 1, ":hover": 1, ":root": 1, "u|a": 1, "|a": 1, "a:not(.x)": 1, ":not(a)": 1, ":any-link": 1, "a:any-link:not([href=x])": 1, "[t^=x][t$=y]": 1, "[t~=x][t~=y]:not([t='x y'])": 1, ":link:visited": 1, "a::before": 1, "*|*": 1, "u|*:not(u|a)": 1, "[t=x][u|t=y]": 1, "[*|t=x][*|t=y]": 1, ":is(a, b).x": 1, ":where(:not(:not(a)))": 1, "a:nth-child(1)": 1, "a:nth-of-type(odd)": 1, ":first-child:root": 1,
		// None, by the element itself.
		"a:not(a)": 0, "a:is(b)": 0, "u|a:is(v|*)": 0, "[t=x][t=y]": 0, "a.x:not([class])": 0, ":not(*)": 0, "#i#j": 0, ":is(:not(*), b:not(b))": 0, "p:any-link": 0, ":any-link:not([href])": 0, ":hover:not(:hover)": 0, ":root:not(:root)": 0, "[t=X]:not([t=x i])": 0, "[t*=xy]:not([t*=x])": 0,
		// Elements above.
		"a b": 2, "a > b": 2, ":not(:root)": 2, "a a a a": 4, "a > b > c > d": 4, "a b:not(a > b)": 3, "a:root b": 2, "a:not(:root) b": 3, ":root :root": 0, "a > :root": 0, "a > b:not(a b)": 0, "a b:not(a b)": 0, "a > b:is(c > *)": 0, "a b:is(c > *)": 3, "a b:is(c *)": 3, ":is(a b) > c": 3, "a:not(b *) c:not(b *)": 2, "a b:not(c *)": 2, "a c:not(b c, c c)": 2, "a > * > * > b": 4, "a :not(b) > c:not(a > c)": 3, "a b::after": 2, ".x:not(.x *) .x": 2, "a:not(* *)": 1, "a:not(* > *)": 1, "* > a:not(* *)": 0,
		// Elements ahead.
		"a + b": 3, "a ~ b": 3, "a ~ b:not(a + b)": 4, "a + b + c": 4, "a ~ b ~ c": 4, "a + b:not(a ~ b)": 0, "a:root ~ b": 0, "a + :root": 0, ":first-child + :first-child": 0, "a + b:first-child": 0, "a + b c": 4, "a > b + c": 3, "a + b > c + d": 5, "a b ~ c:not(a > c)": 4, "a ~ b:not(* *)": 0, "a + b:not(:nth-child(2))": 4, "a ~ b:not(c + b)": 3, ":root > a ~ b": 3, ":root > :root ~ b": 0, "a ~ a ~ a ~ a": 5, "a ~ a:nth-child(3)": 4, "a ~ b + a:nth-child(3)": 4, "a ~ b + a:nth-child(4)": 5, "a ~ b + a:nth-child(2)": 0,
		// Numbers.
		":nth-child(4)": 5, ":nth-child(2 of a)": 3, "a:nth-of-type(2) ~ b": 4, ":nth-child(0)": 0, ":nth-child(-n)": 0, ":nth-child(-n+3)": 1, ":nth-child(n+3)": 4, ":nth-child(2n):nth-child(2n+1)": 0, ":nth-child(2n):nth-child(3n)": 7, ":nth-child(4n+1):nth-child(6n+3)": 10, ":nth-child(6n+1):nth-child(10n+5)": 26, ":nth-child(6n+1):nth-child(10n+4)": 0, ":nth-child(2n):nth-child(3n):nth-child(5n)": 31, ":nth-child(n+3):nth-child(-n+3)": 4, ":nth-child(n+4):nth-child(-n+3)": 0, ":nth-child(5):nth-child(7)": 0, ":nth-child(3):nth-child(2 of a)": 4, ":nth-child(2):nth-child(3 of a)": 0, ":nth-child(3):nth-child(2 of a):nth-child(1 of .x)": 4, ":nth-child(4):not(:nth-child(n of .x)):not(a ~ *)": 5, ":nth-child(2n of a):nth-child(2n+1 of .x):nth-child(4)": 5, ":nth-child(7) > :nth-child(3)": 11, ":nth-child(2) :nth-child(3n+2)": 5, ":root:nth-child(2)": 0, ":nth-child(2 of :root)": 0, ":nth-child(1 of :not(:root))": 2, ":nth-child(2 of :nth-child(2n))": 5, ":nth-child(2 of :nth-child(2 of a))": 0, ":nth-child(2 of a, b):not(a ~ *)": 3, ":nth-child(2 of a, b):not(:nth-child(2 of a)):not(:nth-child(2 of b))": 3, ":nth-child(3 of a > b)": 4, "a:not(:nth-child(n))": 0, ":nth-child(1 of a):nth-child(3 of b)": 0, ":nth-child(1 of a) ~ :nth-child(3 of b)": 5, ":not(:nth-child(3n)):not(:nth-child(3n+1)):not(:nth-child(3n+2))": 0, ":not(:nth-child(3n)):not(:nth-child(3n+1)):not(:nth-child(2))": 6,
		// Some selectors.
		"a:not(a), b > c": 2, "a + b, c d": 2, ":nth-child(9), :nth-child(7), :nth-child(8)": 8, "a:not(a), :nth-child(0)": 0, "a:not(a), b:not(b)::before": 0,
	} {
		a := ask(t, s)
		if f := search(t, a, reach.One(a.plan, 0)); len(f.Path) != want || f.OK != (want > 0) {
			t.Errorf("%q: %+v, not of %d elements", s, f, want)
		}
	}
}

// P16.2, P16.4: two lists: how many elements the least path to what both select has, to what just the first one selects, and just the second one.
func TestTwoLists(t *testing.T) {
	for _, x := range []struct {
		a, b             string
		both, only, back int
	}{
		{"a", "a", 1, 0, 0}, {"a", "b", 0, 1, 1}, {"a", ".x", 1, 1, 1}, {"a", "*", 1, 0, 1}, {"*", "a, :not(a)", 1, 0, 0}, {"a b", "b", 2, 0, 1}, {"a > b", "a b", 2, 0, 3}, {"a b", "a > b", 2, 3, 0}, {"a + b", "a ~ b", 3, 0, 4}, {"a + b", "a b", 3, 3, 2}, {"a b c", "a c", 3, 0, 2}, {"a c", "a > c, a b c", 2, 3, 0}, {":root a", "a:not(:root)", 2, 0, 0}, {":root", ":not(* > *)", 1, 0, 0}, {":root", ":first-child", 1, 0, 2}, {"* + *", ":not(:first-child)", 3, 0, 0},
		{":nth-child(2n)", ":nth-child(3n)", 7, 3, 4}, {":nth-child(4n)", ":nth-child(2n)", 5, 0, 3}, {":nth-child(2n)", ":nth-child(4n), :nth-child(4n+2)", 3, 0, 0}, {":nth-child(n+2)", ":nth-child(n+3)", 4, 3, 0}, {":nth-child(6n+1)", ":nth-child(2n+1):nth-child(3n+1)", 1, 0, 0}, {":nth-child(6n+1)", ":nth-child(2n+1)", 1, 0, 4}, {":nth-child(n of a)", "a", 1, 0, 0}, {":nth-child(2 of a)", "a ~ a:not(a ~ a ~ a)", 3, 0, 0},
		{"a::before", "::before", 1, 0, 1}, {"a::before", "a", 0, 1, 1}, {"a::before, b", "a, b::before", 0, 1, 1}, {"a::before, b", "c::after, b", 1, 1, 1}, {"a b::before", "b::before, b", 2, 0, 1}, {"a::before, a b::after", "a::after", 0, 1, 1}, {"a::before, a b::after", "b::after", 2, 1, 1}, {"a:not(a)", "a", 0, 0, 1}, {"a:not(a)", "b:not(b)", 0, 0, 0},
		{"[t^=x]", "[t$=y]", 1, 1, 1}, {"[t=x]", "[t^=x]", 1, 0, 1}, {"[t=x]", "[t=x i]", 1, 0, 1}, {"[t=x]", "[t=y]", 0, 1, 1}, {"[t|=en]", "[t=en], [t^=en-]", 1, 0, 0}, {"u|a", "a", 1, 0, 1}, {"u|a", "v|a", 0, 1, 1}, {":any-link", "a, area", 1, 0, 1}, {":any-link", "[href]", 1, 0, 1},
	} {
		a := ask(t, x.a, x.b)
		both, only, back := search(t, a, reach.Both(a.plan, 0, 1)), search(t, a, reach.Only(a.plan, 0, 1)), search(t, a, reach.Only(a.plan, 1, 0))
		if len(both.Path) != x.both || len(only.Path) != x.only || len(back.Path) != x.back {
			t.Errorf("%q, %q: %d, %d, %d", x.a, x.b, len(both.Path), len(only.Path), len(back.Path))
		}
		if len(search(t, a, reach.Both(a.plan, 1, 0)).Path) != x.both || search(t, a, reach.Only(a.plan, 0, 0)).OK {
			t.Errorf("%q, %q: the other way round, or the same", x.a, x.b)
		}
	}
}

// P16.2: the first one of wants that wants the element that is met first.
func TestFirstWant(t *testing.T) {
	a := ask(t, "a b, c, d > e > f, a:not(a), .x") // the rows are 0, 1, 2, 4 and 5; that of the a within :not is 3
	w := func(rows ...int) api.Want { return api.Want{All: [][]int{rows}} }
	for i, x := range []struct {
		wants      []api.Want
		want, long int
	}{
		{[]api.Want{w(0)}, 0, 2}, {[]api.Want{w(0), w(1)}, 1, 1}, {[]api.Want{w(2), w(0)}, 1, 2}, {[]api.Want{w(4), w(2), w(4)}, 1, 3}, {[]api.Want{w(4)}, 0, 0}, {[]api.Want{w(4), w()}, 0, 0}, {nil, 0, 0},
		{[]api.Want{{}}, 0, 1}, {[]api.Want{w(4), {}, {}}, 1, 1}, {[]api.Want{{All: [][]int{{1}, {5}}}}, 0, 1}, {[]api.Want{{All: [][]int{{1}, {0}}}}, 0, 0}, {[]api.Want{{All: [][]int{{1, 2}, {0, 2}}}}, 0, 3}, {[]api.Want{{All: [][]int{{1}, {}}}}, 0, 0},
		{[]api.Want{{None: []int{5}}}, 0, 1}, {[]api.Want{{All: [][]int{{1}}, None: []int{1}}}, 0, 0}, {[]api.Want{{All: [][]int{{0, 2}}, None: []int{0}}}, 0, 3}, {[]api.Want{{All: [][]int{{0}}, None: []int{5, 4, -1, 99}}}, 0, 2}, {[]api.Want{w(-1), w(6), w(99), w(-1, 6, 0)}, 3, 2}, {[]api.Want{w(3)}, 0, 1}, {[]api.Want{{All: [][]int{{3}, {1}}}}, 0, 0},
	} {
		f, steps, err := reach.Search(a.plan, x.wants, enough)
		if err != nil || f.Want != x.want || len(f.Path) != x.long || f.OK != (x.long > 0) || len(f.Path) >= steps {
			t.Errorf("%d: %+v, %d, %v", i, f, steps, err)
		}
	}
}

// P16.2: budgets from far below on: none that is below what is needed is enough, and all others are alike.
func TestBudgets(t *testing.T) {
	for _, s := range []string{"*", "a", "a:not(a)", "a > b", "a ~ b", ":nth-child(2n):nth-child(3)", "[t^=x][t$=y]", "a b:not(a b)", ":hover :root"} {
		a := ask(t, s)
		wants, bound := reach.One(a.plan, 0), reach.Bound(a.plan)
		f, needed, err := reach.Search(a.plan, wants, bound)
		if err != nil || needed > bound {
			t.Fatal(s, needed, err)
		}
		for _, budget := range []int{-1 << 63, -1 << 62, -2, -1} {
			if got, steps, err := reach.Search(a.plan, wants, budget); !errors.Is(err, api.ErrLimit) || at(err) != 0 || steps != 0 || !isZero(got) {
				t.Errorf("%q, %d: %d, %v", s, budget, steps, err)
			}
		}
		for budget := range needed {
			if got, steps, err := reach.Search(a.plan, wants, budget); !errors.Is(err, api.ErrLimit) || at(err) != 0 || steps < 0 || steps > budget || !isZero(got) {
				t.Errorf("%q, %d of %d: %d, %v", s, budget, needed, steps, err)
			}
		}
		for _, budget := range []int{needed, needed + 1, needed + 7, bound - 1, bound, bound + 1, 1 << 62, 1<<63 - 1} {
			if got, steps, err := reach.Search(a.plan, wants, budget); budget >= needed && (err != nil || steps != needed || !same(got, f)) {
				t.Errorf("%q, %d of %d: %d, %v", s, budget, needed, steps, err)
			}
		}
	}
}
