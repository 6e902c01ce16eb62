package flat_test

import (
	"fmt"
	"math"
	"slices"
	"testing"

	"wattle/api"
	"wattle/flat"
	"wattle/sel"
)

// P14.1: rows, steps and what they ask, of each kind of simple selector, and in which order all of that comes.
func TestPlans(t *testing.T) {
	for _, c := range []struct {
		lists []string
		want  string
	}{
		{nil, " /  /  /  / 0"},
		{[]string{"a > .x:not(b)"}, "T:a @|class~x T:b / 0:a2; 1:a0 > a1 !(any(r0)) /  / [1] / 3"},
		// Each kind.
		{[]string{"a"}, "T:a / 0:a0 /  / [0] / 1"},
		{[]string{"*"}, " / 0:true /  / [0] / 1"},
		{[]string{".x"}, "@|class~x / 0:a0 /  / [0] / 1"},
		{[]string{"#x"}, "@|id=x / 0:a0 /  / [0] / 1"},
		{[]string{":root"}, " / 0:root /  / [0] / 1"},
		{[]string{":hover"}, "S:hover / 0:a0 /  / [0] / 1"},
		{[]string{":any-link"}, "T:a T:area @|href! / 0:!(any(!(any(a0,a1)),!(a2))) /  / [0] / 1"},
		{[]string{":nth-child(2n+1)"}, " / 0:c0 / 2n1[] / [0] / 1"},
		{[]string{":nth-child(-3n of a, .x)"}, "T:a @|class~x / 0:a0; 1:a1; 2:c0 / -3n0[0 1] / [2] / 3"},
		{[]string{":is(a)"}, "T:a / 0:a0; 1:any(r0) /  / [1] / 2"},
		{[]string{":where(a, b)"}, "T:a T:b / 0:a0; 1:a1; 2:any(r0,r1) /  / [2] / 3"},
		{[]string{":not(a, b)"}, "T:a T:b / 0:a0; 1:a1; 2:!(any(r0,r1)) /  / [2] / 3"},
		{[]string{"a::before"}, "T:a / 0:a0 true::before /  / [0] / 1"},
		{[]string{"::marker"}, " / 0:true::marker /  / [0] / 1"},
		// Attributes: each operator, and marks.
		{[]string{"[t]"}, "@|t! / 0:a0 /  / [0] / 1"},
		{[]string{"[t=x][t~=x][t|=x][t^=x][t$=x][t*=x]"}, "@|t=x @|t~x @|t-x @|t^x @|t$x @|t*x / 0:a0 a1 a2 a3 a4 a5 /  / [0] / 1"},
		{[]string{"[t=x i][t=x s][t=x]"}, "@|t=x+i @|t=x / 0:a0 a1 a1 /  / [0] / 1"},
		{[]string{"[*|t][|t][class~=x].x[id=x]#x[id=y]"}, "@t! @|t! @|class~x @|id=x @|id=y / 0:a0 a1 a2 a2 a3 a3 a4 /  / [0] / 1"},
		// Namespaces, without a default one.
		{[]string{"*|a", "|a", "*|*", "|*", "a", "*"}, "T:a T:|a T:| / 0:a0; 1:a1; 2:true; 3:a2; 4:a0; 5:true /  / [0][1][2][3][4][5] / 6"},
		// Combinators, and rows behind one another.
		{[]string{"a b > c + d ~ e"}, "T:a T:b T:c T:d T:e / 0:a0 _ a1 > a2 + a3 ~ a4 /  / [0] / 5"},
		{[]string{"a b, c", "b > a, a::after", "c"}, "T:a T:b T:c / 0:a0 _ a1; 2:a2; 3:a1 > a0; 5:a0 true::after; 6:a2 /  / [0 1][2 3][4] / 7"},
		{[]string{"a", "a"}, "T:a / 0:a0; 1:a0 /  / [0][1] / 2"},
		// What stands within comes ahead: rows, steps and counters; atoms come as they are met.
		{[]string{"a:is(b c, d) e"}, "T:a T:b T:c T:d T:e / 0:a1 _ a2; 2:a3; 3:a0 any(r0,r1) _ a4 /  / [2] / 5"},
		{[]string{"a:is(b:not(c d)) :is(.x)", "b c"}, "T:a T:b T:c T:d @|class~x / 0:a2 _ a3; 2:a1 !(any(r0)); 3:a4; 4:a0 any(r1) _ any(r2); 6:a1 _ a2 /  / [3][4] / 8"},
		{[]string{":nth-child(n of :nth-child(2n of a):nth-child(3n))"}, "T:a / 0:a0; 1:c0 c1; 2:c2 / 2n0[0] 3n0[] 1n0[1] / [2] / 3"},
		{[]string{":nth-child(2n):nth-child(2n) :nth-child(2n)", ":nth-child(2n)"}, " / 0:c0 c1 _ c2; 2:c3 / 2n0[] 2n0[] 2n0[] 2n0[] / [0][1] / 3"},
		{[]string{"a:nth-of-type(2), :first-child, b:first-of-type"}, "T:a T:b / 0:a0; 1:a0 c0; 2:c1; 3:a1; 4:a1 c2 / 0n2[0] 0n1[] 0n1[3] / [1 2 4] / 5"},
		{[]string{":is(a, a):is(a)"}, "T:a / 0:a0; 1:a0; 2:a0; 3:any(r0,r1) any(r2) /  / [3] / 4"},
		{[]string{":any-link:any-link[href]", "a area"}, "T:a T:area @|href! / 0:!(any(!(any(a0,a1)),!(a2))) !(any(!(any(a0,a1)),!(a2))) a2; 1:a0 _ a1 /  / [0][1] / 3"},
		{[]string{"area b[href]:any-link"}, "T:area T:b @|href! T:a / 0:a0 _ a1 a2 !(any(!(any(a3,a0)),!(a2))) /  / [0] / 2"},
		{[]string{"link:link, a:hover, :hover:not(:link)"}, "T:link S:link T:a S:hover / 0:a0 a1; 1:a2 a3; 2:a1; 3:a3 !(any(r2)) /  / [0 1 3] / 4"},
	} {
		if got := told(plan(t, api.Names{}, c.lists...)); got != c.want {
			t.Errorf("%q:\n%s, not\n%s", c.lists, got, c.want)
		}
	}
}

// P14.1: namespaces, with a default one (which may be empty), and with a default that isn't one.
func TestSpaces(t *testing.T) {
	const text = "a, *, *|a, *|*, |a, |*, p|a, p|*, q|a, q|*, r|a, r|*"
	const attrs = "[t][*|t][|t][p|t][q|t][r|t].x#x:any-link:hover"
	rows := func(atoms string, numbers ...any) string {
		return fmt.Sprintf(atoms+" / 0:%s; 1:%s; 2:%s; 3:%s; 4:%s; 5:%s; 6:%s; 7:%s; 8:%s; 9:%s; 10:%s; 11:%s /  / [0 1 2 3 4 5 6 7 8 9 10 11] / 12", numbers...)
	}
	with, empty, without := spaces(), spaces(), spaces()
	empty.Default, without.HasDefault = "", false
	for i, c := range []struct {
		names api.Names
		text  string
		want  string
	}{
		{with, text, rows("T:d|a T:d| T:a T:|a T:| T:u|a T:u|", "a0", "a1", "a2", "true", "a3", "a4", "a5", "a6", "a3", "a4", "a0", "a1")},
		{empty, text, rows("T:|a T:| T:a T:u|a T:u| T:d|a T:d|", "a0", "a1", "a2", "true", "a0", "a1", "a3", "a4", "a0", "a1", "a5", "a6")},
		{without, text, rows("T:a T:|a T:| T:u|a T:u| T:d|a T:d|", "a0", "true", "a0", "true", "a1", "a2", "a3", "a4", "a1", "a2", "a5", "a6")},
		{with, attrs, "@|t! @t! @u|t! @d|t! @|class~x @|id=x T:d|a T:d|area @|href! S:hover / 0:a0 a1 a0 a2 a0 a3 a4 a5 !(any(!(any(a6,a7)),!(a8))) a9 /  / [0] / 1"},
		{without, attrs, "@|t! @t! @u|t! @d|t! @|class~x @|id=x T:a T:area @|href! S:hover / 0:a0 a1 a0 a2 a0 a3 a4 a5 !(any(!(any(a6,a7)),!(a8))) a9 /  / [0] / 1"},
		{with, "a:nth-of-type(2)", "T:d|a / 0:a0; 1:a0 c0 / 0n2[0] / [1] / 2"},
	} {
		if got := told(plan(t, c.names, c.text)); got != c.want {
			t.Errorf("%d:\n%s, not\n%s", i, got, c.want)
		}
	}
	// Names as they come, also such as no text gives easily; empty texts of conditions; a class of which no value has the name.
	p := planOf(t, api.Names{}, list(one(typ("*"), class("x y"), id(" "), attr("\n", api.OpWord, ""), holds(api.SelNot, one(typ("é\U0001f600"))))))
	if got, want := told(p), "T:* @|class~x y @|id=  @|\n~ T:é\U0001f600 / 0:a4; 1:a0 a1 a2 a3 !(any(r0)) /  / [1] / 2"; got != want {
		t.Errorf("%q", got)
	}
}

// P14.1: the errors, in their order.
func TestErrors(t *testing.T) {
	a := list(one(typ("a")))
	deep := list(one(typ("a")))
	for range 32 {
		deep = list(one(holds(api.SelIs, deep...)))
	}
	p := list(one(spaced(api.NSNamed, "p", typ("a"))))
	wrong := [][]api.Complex{
		nil, {}, {{}}, {one()}, {one(typ(""))}, {one(typ("\xff"))}, {one(class("a\x00"))}, {one(simple{})}, {one(simple{Kind: 14})}, {one(class("x"), typ("a"))}, {one(pseudo("before"), class("x"))}, {one(pseudo("x"))}, {one(state("x"))}, {one(nth(api.MaxNth+1, 0))}, {one(holds(api.SelIs))}, {one(holds(api.SelNot, one(pseudo("after"))))}, {{List: []api.Compound{{Comb: api.CombBelow, List: []simple{typ("a")}}}}}, {then(one(typ("a")), api.CombFirst, typ("a"))}, {then(one(typ("a")), 5, typ("a"))}, {one(simple{Kind: api.SelRoot, Name: "x"})}, {one(spaced(api.NSNamed, "P", typ("a")))}, deep, {one(typ("a")), one()},
	}
	names := api.Names{Prefixes: []string{"p"}, Spaces: []string{"u"}}
	for i, w := range wrong {
		for k, lists := range [][][]api.Complex{{w}, {w, a}, {a, w}, {p, p, w}, {p, w, w}, {w, w, a}, {a, a, p, a, a, w, a}, {a, a, p, a, w, a, w}, {a, w, a, a, a, a, w, a}} {
			at := slices.IndexFunc(lists, func(l []api.Complex) bool { return sel.Check(l, names) != nil })
			if got, err := flat.Make(lists, names); !isFault(err, api.ErrArg, at) || told(got) != told(api.Plan{}) {
				t.Errorf("%d, %d: %v, %v", i, k, got, err)
			}
		}
	}
	for k, lists := range [][][]api.Complex{nil, {p}, {a, p}, {a, deep[0].List[0].List[0].Of}} {
		if _, err := flat.Make(lists, names); err != nil {
			t.Errorf("%d: %v", k, err)
		}
	}
	if _, err := flat.Make([][]api.Complex{a, p}, api.Names{}); !isFault(err, api.ErrArg, 1) {
		t.Error(err)
	}
	for i, names := range []api.Names{{Prefixes: []string{"p"}}, {Prefixes: []string{""}, Spaces: []string{"u"}}, {Prefixes: []string{"p", "p"}, Spaces: []string{"u", "v"}}, {Default: "\xff"}, {Prefixes: []string{"p"}, Spaces: []string{"\x00"}}} {
		for k, lists := range [][][]api.Complex{nil, {a}, {p}, {nil}, {a, deep}} {
			if got, err := flat.Make(lists, names); !isFault(err, api.ErrName, 0) || told(got) != told(api.Plan{}) {
				t.Errorf("%d, %d: %v, %v", i, k, got, err)
			}
		}
	}
}

// P14.2: pseudo-elements of the lists' rows, as they come first.
func TestPseudos(t *testing.T) {
	for _, c := range []struct {
		lists []string
		want  []string
	}{
		{nil, nil}, {[]string{"a"}, []string{""}}, {[]string{"a::before"}, []string{"before"}}, {[]string{"a::after, a::before, b::after", "a, ::before", "b, ::backdrop"}, []string{"after", "before", "", "backdrop"}}, {[]string{":is(a, b)::after"}, []string{"after"}}, {[]string{"a:not(b)", ":nth-child(2n of a)"}, []string{""}},
	} {
		if got := flat.Pseudos(plan(t, api.Names{}, c.lists...)); !slices.Equal(got, c.want) {
			t.Errorf("%q: %q", c.lists, got)
		}
	}
	// Numbers that no row has.
	p := api.Plan{Rows: []api.Row{{Pseudo: "x"}, {Pseudo: "y"}, {}}, Lists: [][]int{{-1, 1}, {math.MinInt, 3, math.MaxInt, 1, 2}, nil, {1 << 32, 1, 0}}}
	if got := flat.Pseudos(p); !slices.Equal(got, []string{"y", "", "x"}) {
		t.Errorf("%q", got)
	}
	if got := flat.Pseudos(api.Plan{Lists: [][]int{{0}}}); len(got) > 0 {
		t.Errorf("%q", got)
	}
}

// P14.2: of each step the Comb of the one behind it.
func TestKept(t *testing.T) {
	for _, c := range []struct {
		lists []string
		want  []int
	}{
		{nil, nil}, {[]string{"a"}, []int{0}}, {[]string{"a > .x:not(b)"}, []int{0, 2, 0}}, {[]string{"a b > c + d ~ e"}, []int{1, 2, 3, 4, 0}}, {[]string{"a b, c", "a ~ b, c + d"}, []int{1, 0, 0, 4, 0, 3, 0}}, {[]string{"a:is(b > c d, e) ~ f:nth-child(n of g + h) i"}, []int{2, 1, 0, 0, 3, 0, 4, 1, 0}},
	} {
		p := plan(t, api.Names{}, c.lists...)
		if got := flat.Kept(p); !slices.Equal(got, c.want) || len(got) != p.Steps {
			t.Errorf("%q: %v", c.lists, got)
		}
	}
}

// P14.2: of each counter its own span.
func TestSpans(t *testing.T) {
	for _, c := range []struct {
		lists         []string
		heads, rounds []int
	}{
		{nil, nil, nil}, {[]string{"a"}, nil, nil}, {[]string{":nth-child(2n+1)"}, []int{0}, []int{2}}, {[]string{":nth-child(2n+7):nth-child(-3n+5)", ":nth-child(4):nth-child(0n-4)"}, []int{6, 5, 4, 0}, []int{2, 3, 1, 1}}, {[]string{":nth-child(6n of :nth-child(4n-9))"}, []int{0, 0}, []int{4, 6}}, {[]string{":nth-child(1000000n+1000000), :nth-child(-1000000n+1000000), :nth-child(-n-1000000)"}, []int{999999, 1000000, 0}, []int{1000000, 1000000, 1}},
	} {
		heads, rounds := flat.Spans(plan(t, api.Names{}, c.lists...))
		if !slices.Equal(heads, c.heads) || !slices.Equal(rounds, c.rounds) {
			t.Errorf("%q: %v, %v", c.lists, heads, rounds)
		}
	}
	// Numbers that are greater than those of lists that are right.
	p := api.Plan{Counters: []api.Counter{{AB: api.AB{A: math.MinInt, B: math.MaxInt}, Rows: []int{-1}}, {AB: api.AB{A: math.MaxInt, B: math.MinInt}}, {}}}
	heads, rounds := flat.Spans(p)
	if !slices.Equal(heads, []int{1 << 62, 0, 0}) || !slices.Equal(rounds, []int{1 << 62, 1 << 62, 1}) {
		t.Errorf("%v, %v", heads, rounds)
	}
}
