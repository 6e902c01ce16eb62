package write_test

import (
	"math"
	"slices"
	"strings"
	"testing"

	"wattle/anb"
	"wattle/api"
	"wattle/chars"
	"wattle/parse"
	"wattle/sel"
	"wattle/write"
)

type simple = api.Simple

// of is a selector of one compound.
func of(list ...simple) api.Complex { return api.Complex{List: []api.Compound{{List: list}}} }

// row is a selector of two compounds.
func row(comb int, a, b simple) api.Complex {
	return api.Complex{List: []api.Compound{{List: []simple{a}}, {Comb: comb, List: []simple{b}}}}
}

func typ(name string) simple   { return simple{Kind: api.SelType, Name: name} }
func class(name string) simple { return simple{Kind: api.SelClass, Name: name} }
func attr(op int, text string, mark int) simple {
	return simple{Kind: api.SelAttr, Name: "t", Cond: api.Cond{Op: op, Text: text, Fold: mark == api.MarkFold}, Mark: mark}
}
func nth(a, b int, some ...api.Complex) simple {
	return simple{Kind: api.SelNth, AB: api.AB{A: a, B: b}, Of: some}
}
func within(kind int, some ...api.Complex) simple { return simple{Kind: kind, Of: some} }

// P10.1: each Kind, with all that it may have; of a Kind that isn't one nothing.
func TestSimple(t *testing.T) {
	a, b := of(typ("a")), of(class("b"))
	for i, x := range []struct {
		s    simple
		want string
	}{
		{typ("a"), "a"}, {typ("A"), "A"}, {typ("1a b"), `\31 a\ b`}, {typ("-"), `\-`}, {typ("\ufeffé"), `\feff é`}, {typ("a\x00"), "a\ufffd"}, {typ("\xff"), "\ufffd"}, {typ("a|b"), `a\|b`}, {typ(""), ""}, {typ("*"), `\*`},
		{simple{Kind: api.SelAny}, "*"}, {simple{Kind: api.SelAny, Name: "a"}, "*"}, {class("a"), ".a"}, {class("1"), `.\31 `}, {class("a.b"), `.a\.b`}, {simple{Kind: api.SelID, Name: "a"}, "#a"}, {simple{Kind: api.SelID, Name: "-1"}, `#-\31 `}, {simple{Kind: api.SelID, Name: "\n"}, `#\a `},
		// Prefixes, which just these Kinds have.
		{simple{Kind: api.SelType, NS: api.NSAny, Name: "a"}, "*|a"}, {simple{Kind: api.SelType, NS: api.NSEmpty, Name: "a"}, "|a"}, {simple{Kind: api.SelType, NS: api.NSNamed, Prefix: "p", Name: "a"}, "p|a"}, {simple{Kind: api.SelType, NS: api.NSNamed, Prefix: "1 p", Name: "2a"}, `\31 \ p|\32 a`}, {simple{Kind: api.SelAny, NS: api.NSAny}, "*|*"}, {simple{Kind: api.SelAny, NS: api.NSEmpty}, "|*"}, {simple{Kind: api.SelAny, NS: api.NSNamed, Prefix: "P"}, "P|*"}, {simple{Kind: api.SelAttr, NS: api.NSAny, Name: "a", Cond: api.Cond{Op: api.OpHas}}, "[*|a]"}, {simple{Kind: api.SelAttr, NS: api.NSEmpty, Name: "a", Cond: api.Cond{Op: api.OpDash, Text: "x"}}, `[|a|="x"]`}, {simple{Kind: api.SelAttr, NS: api.NSNamed, Prefix: "p", Name: "a", Cond: api.Cond{Op: api.OpIs, Text: "x"}}, `[p|a="x"]`},
		{simple{Kind: api.SelType, NS: api.NSNone, Prefix: "p", Name: "a"}, "a"}, {simple{Kind: api.SelType, NS: api.NSAny, Prefix: "p", Name: "a"}, "*|a"}, {simple{Kind: api.SelType, NS: api.NSEmpty, Prefix: "p", Name: "a"}, "|a"}, {simple{Kind: api.SelType, NS: 4, Prefix: "p", Name: "a"}, "a"}, {simple{Kind: api.SelType, NS: -1, Prefix: "p", Name: "a"}, "a"}, {simple{Kind: api.SelType, NS: api.NSNamed, Name: "a"}, "|a"}, {simple{Kind: api.SelClass, NS: api.NSAny, Prefix: "p", Name: "a"}, ".a"}, {simple{Kind: api.SelID, NS: api.NSNamed, Prefix: "p", Name: "a"}, "#a"},
		// Conditions.
		{attr(api.OpHas, "", 0), "[t]"}, {attr(api.OpHas, "x", api.MarkFold), "[t]"}, {attr(api.OpHas, "x", api.MarkExact), "[t]"}, {attr(api.OpIs, "x", 0), `[t="x"]`}, {attr(api.OpWord, "x", 0), `[t~="x"]`}, {attr(api.OpDash, "x", 0), `[t|="x"]`}, {attr(api.OpBegin, "x", 0), `[t^="x"]`}, {attr(api.OpEnd, "x", 0), `[t$="x"]`}, {attr(api.OpPart, "x", 0), `[t*="x"]`}, {attr(0, "x", 0), `[t="x"]`}, {attr(8, "x", 0), `[t="x"]`}, {attr(-1, "x", 0), `[t="x"]`}, {attr(math.MaxInt, "x", 0), `[t="x"]`}, {attr(math.MinInt, "x", 0), `[t="x"]`},
		{attr(api.OpIs, "x", api.MarkFold), `[t="x" i]`}, {attr(api.OpPart, "x", api.MarkExact), `[t*="x" s]`}, {attr(api.OpIs, "x", 3), `[t="x"]`}, {attr(api.OpIs, "x", -1), `[t="x"]`}, {simple{Kind: api.SelAttr, Name: "t", Cond: api.Cond{Op: api.OpIs, Text: "x", Fold: true}}, `[t="x"]`}, {simple{Kind: api.SelAttr, Name: "t", Cond: api.Cond{Op: api.OpIs, Text: "x"}, Mark: api.MarkFold}, `[t="x" i]`}, {attr(api.OpIs, "", 0), `[t=""]`}, {attr(api.OpIs, "a\"\\\nb'", 0), `[t="a\"\\\a b'"]`}, {attr(api.OpIs, "1 é\ufeff\x7f", 0), "[t=\"1 é\ufeff\\7f \"]"}, {simple{Kind: api.SelAttr, Name: "1t", Cond: api.Cond{Op: api.OpHas}}, `[\31 t]`}, {simple{Kind: api.SelAttr, Name: "", Cond: api.Cond{}}, `[=""]`},
		// Pseudo-classes, and pseudo-elements.
		{simple{Kind: api.SelRoot}, ":root"}, {simple{Kind: api.SelRoot, Name: "a"}, ":root"}, {simple{Kind: api.SelLink}, ":any-link"}, {simple{Kind: api.SelState, Name: "hover"}, ":hover"}, {simple{Kind: api.SelState, Name: "1 A\xff\x00"}, ":1 A\xff\x00"}, {simple{Kind: api.SelState}, ":"}, {simple{Kind: api.SelPseudo, Name: "before"}, "::before"}, {simple{Kind: api.SelPseudo, Name: "1 A\xff\x00"}, "::1 A\xff\x00"}, {simple{Kind: api.SelPseudo}, "::"},
		{nth(0, 1), ":nth-child(1)"}, {nth(0, 0), ":nth-child(0)"}, {nth(0, -3), ":nth-child(-3)"}, {nth(1, 0), ":nth-child(n)"}, {nth(-1, 3), ":nth-child(-n+3)"}, {nth(2, 1), ":nth-child(2n+1)"}, {nth(-2, -1), ":nth-child(-2n-1)"}, {nth(math.MaxInt, math.MinInt), ":nth-child(9223372036854775807n-9223372036854775808)"}, {nth(2, 0, a), ":nth-child(2n of a)"}, {nth(2, 1, a, b), ":nth-child(2n+1 of a, .b)"}, {simple{Kind: api.SelNth, Of: []api.Complex{}}, ":nth-child(0)"}, {nth(2, 0, api.Complex{}), ":nth-child(2n of )"},
		{within(api.SelIs, a), ":is(a)"}, {within(api.SelWhere, a, b), ":where(a, .b)"}, {within(api.SelNot, a, b, a), ":not(a, .b, a)"}, {within(api.SelIs), ":is()"}, {within(api.SelNot, api.Complex{}, api.Complex{}), ":not(, )"}, {within(api.SelIs, of(within(api.SelNot, of(within(api.SelWhere, a), typ("c"))), class("d")), b), ":is(:not(:where(a)c).d, .b)"}, {within(api.SelIs, row(api.CombChild, typ("a"), class("b"))), ":is(a > .b)"}, {within(api.SelClass, a), "."}, {within(api.SelRoot, a), ":root"},
		{simple{}, ""}, {simple{Kind: -1, Name: "a"}, ""}, {simple{Kind: 14, Name: "a", Of: []api.Complex{a}}, ""}, {simple{Kind: math.MaxInt, Name: "a"}, ""}, {simple{Kind: math.MinInt, Name: "a"}, ""},
	} {
		if got := write.Simple(x.s); got != x.want {
			t.Errorf("%d: %q, not %q", i, got, x.want)
		}
		if got := write.Complex(of(class("x"), x.s, class("y"))); got != ".x"+x.want+".y" {
			t.Errorf("%d: %q", i, got)
		}
		if got := write.Text([]api.Complex{of(x.s), of(x.s)}); got != x.want+", "+x.want {
			t.Errorf("%d: %q", i, got)
		}
	}
}

// P10.1: compounds and combinators, also such as aren't right.
func TestComplex(t *testing.T) {
	a, b, c := typ("a"), class("b"), class("c")
	for i, x := range []struct {
		c    api.Complex
		want string
	}{
		{api.Complex{}, ""}, {api.Complex{List: []api.Compound{}}, ""}, {of(), ""}, {of(a), "a"}, {of(a, b, c), "a.b.c"}, {of(b, a), ".ba"},
		{row(api.CombBelow, a, b), "a .b"}, {row(api.CombChild, a, b), "a > .b"}, {row(api.CombNext, a, b), "a + .b"}, {row(api.CombLater, a, b), "a ~ .b"}, {row(api.CombFirst, a, b), "a .b"}, {row(5, a, b), "a .b"}, {row(-1, a, b), "a .b"}, {row(math.MaxInt, a, b), "a .b"},
		{api.Complex{List: []api.Compound{{Comb: api.CombChild, List: []simple{a}}, {Comb: api.CombNext, List: []simple{b, c}}, {Comb: api.CombBelow, List: []simple{c}}}}, "a + .b.c .c"}, {api.Complex{List: []api.Compound{{}, {}, {Comb: api.CombLater}}}, "  ~ "}, {row(api.CombChild, class("1"), class("2")), `.\31  > .\32 `},
	} {
		if got := write.Complex(x.c); got != x.want {
			t.Errorf("%d: %q, not %q", i, got, x.want)
		}
		if got := write.Text([]api.Complex{x.c, x.c, x.c}); got != x.want+", "+x.want+", "+x.want {
			t.Errorf("%d: %q", i, got)
		}
		if got := write.Simple(within(api.SelNot, x.c)); got != ":not("+x.want+")" {
			t.Errorf("%d: %q", i, got)
		}
	}
	if write.Text(nil) != "" || write.Text([]api.Complex{}) != "" || write.Text([]api.Complex{{}}) != "" || write.Text([]api.Complex{{}, {}}) != ", " {
		t.Error("lists of nothing")
	}
}

// P10.1, P1: lists far down in one another, and long ones, are written in time.
func TestGreatLists(t *testing.T) {
	const most = 1 << 16
	for kind, head := range map[int]string{api.SelIs: ":is(", api.SelWhere: ":where(", api.SelNot: ":not(", api.SelNth: ":nth-child(2n of "} {
		inner := []api.Complex{of(typ("a")), of(class("b"))}
		for range most {
			s := within(kind, inner...)
			if kind == api.SelNth {
				s = nth(2, 0, inner...)
			}
			inner = []api.Complex{of(s)}
		}
		if got := write.Text(inner); got != strings.Repeat(head, most)+"a, .b"+strings.Repeat(")", most) {
			t.Errorf("%s: %d bytes", head, len(got))
		}
	}
	long := slices.Repeat([]api.Complex{row(api.CombNext, typ("a"), class("b"))}, most)
	if got := write.Text(long); got != strings.Repeat("a + .b, ", most)[:8*most-2] {
		t.Errorf("%d bytes", len(got))
	}
}

// maker makes right lists out of a seed.
type maker struct{ seed uint64 }

var names = api.Names{HasDefault: true, Default: "d", Prefixes: []string{"p", "P", "1 \n|", "\ufeff", "-"}, Spaces: []string{"u", "", "v", "w", "x"}}

func (m *maker) pick(n int) int {
	m.seed = m.seed*6364136223846793005 + 1442695040888963407
	return int(m.seed>>33) % n
}

// text is some characters, among them all those below 0x80.
func (m *maker) text(least int) string {
	var out []rune
	for range least + m.pick(4) {
		c := []rune{'a', 'F', '0', '-', ' ', '\n', '\r', '\f', '"', '\'', '\\', '|', '*', ')', ']', ',', 0x7f, 0x80, 0xa0, 0xe9, 0xfeff, 0xfffd, 0x1f600, 0x10ffff}[m.pick(24)]
		if m.pick(3) == 0 {
			c = rune(1 + m.pick(0x7f))
		}
		out = append(out, c)
	}
	return string(out)
}

func (m *maker) list(depth int) []api.Complex {
	var out []api.Complex
	for range 1 + m.pick(3) {
		var c api.Complex
		for i := range 1 + m.pick(3) {
			part := api.Compound{List: m.compound(depth)}
			if i > 0 {
				part.Comb = api.CombBelow + m.pick(4)
			}
			c.List = append(c.List, part)
		}
		if last := &c.List[len(c.List)-1]; depth == 0 && m.pick(4) == 0 {
			name := []string{"before", "after", "first-line", "first-letter", "marker", "selection", "placeholder", "backdrop"}[m.pick(8)]
			last.List = append(last.List, simple{Kind: api.SelPseudo, Name: name})
		}
		out = append(out, c)
	}
	return out
}

func (m *maker) compound(depth int) []simple {
	var out []simple
	switch m.pick(4) {
	case 0:
		out = append(out, m.space(typ(m.text(1))))
	case 1:
		out = append(out, m.space(simple{Kind: api.SelAny}))
	}
	for len(out) == 0 || m.pick(2) == 0 {
		out = append(out, m.simple(depth))
	}
	return out
}

func (m *maker) space(s simple) simple {
	s.NS = m.pick(4)
	if s.NS == api.NSNamed {
		s.Prefix = names.Prefixes[m.pick(len(names.Prefixes))]
	}
	return s
}

func (m *maker) simple(depth int) simple {
	switch m.pick(8) {
	case 0:
		return simple{Kind: api.SelID, Name: m.text(1)}
	case 1:
		return class(m.text(1))
	case 2:
		return simple{Kind: api.SelRoot}
	case 3:
		return simple{Kind: api.SelLink}
	case 4:
		return simple{Kind: api.SelState, Name: []string{"hover", "active", "focus", "focus-visible", "visited", "link", "checked", "disabled", "enabled", "target"}[m.pick(10)]}
	case 5:
		some := []int{0, 1, -1, 2, -2, 10, api.MaxNth, -api.MaxNth}
		s := nth(some[m.pick(8)], some[m.pick(8)])
		if depth < 3 && m.pick(2) == 0 {
			s.Of = m.list(depth + 1)
		}
		return s
	case 6:
		if depth < 3 {
			return within(api.SelIs+m.pick(3), m.list(depth+1)...)
		}
	}
	s := m.space(attr(api.OpHas+m.pick(7), "", 0))
	s.Name = m.text(1)
	if s.Cond.Op > api.OpHas {
		s.Cond.Text, s.Mark = m.text(0), m.pick(3)
		s.Cond.Fold = s.Mark == api.MarkFold
	}
	return s
}

// P10.2: right lists of all kinds are read from their texts as they are.
func TestTextsAreRead(t *testing.T) {
	for seed := range 30000 {
		m := maker{uint64(seed) * 0x9e3779b97f4a7c15}
		checkBack(t, m.list(0))
	}
}

// checkBack holds what is read of a right list's text against the list.
func checkBack(t *testing.T, list []api.Complex) {
	t.Helper()
	if err := sel.Check(list, names); err != nil {
		t.Fatalf("%v: not right: %v", list, err)
	}
	s := write.Text(list)
	if back, err := parse.Selectors([]byte(s), names); err != nil || !sel.Same(back, list) {
		t.Fatalf("%q: %v, %v, not %v", s, back, err, list)
	}
}

// P10.2: each character as a name, in names and in texts, with others behind it.
func TestEveryCharacterIsRead(t *testing.T) {
	var some []rune
	for c := rune(1); c < 0x300; c++ {
		some = append(some, c)
	}
	some = append(some, 0x2028, 0xd7ff, 0xe000, 0xfeff, 0xfffd, 0xfffe, 0xffff, 0x10000, 0x10ffff)
	for _, c := range some {
		for _, s := range []string{string(c), string(c) + "a", "a" + string(c), "-" + string(c), string(c) + "-", string(c) + string(c), string(c) + "0", string(c) + " "} {
			a := simple{Kind: api.SelAttr, Name: s, Cond: api.Cond{Op: api.OpDash, Text: s}}
			checkBack(t, []api.Complex{of(typ(s), class(s), a, simple{Kind: api.SelID, Name: s}), row(api.CombBelow, typ(s), typ(s)), row(api.CombChild, class(s), class(s)), of(nth(1, 0, of(typ(s)))), of(within(api.SelIs, of(typ(s)), of(class(s))))})
		}
	}
}

// P10.2: the deepest list that is right.
func TestDeepestIsRead(t *testing.T) {
	for _, kind := range []int{api.SelIs, api.SelWhere, api.SelNot, api.SelNth} {
		inner := []api.Complex{of(typ("a"), nth(2, 0)), of(class("b"))}
		for range api.MaxDeep - 1 {
			inner = []api.Complex{of(within(kind, inner...)), of(class("c"))}
		}
		checkBack(t, inner)
	}
}

// P10.1: the parts are written by the layers below, as what is read is written again: the chapter's example.
func TestTextsOfWhatIsRead(t *testing.T) {
	for s, want := range map[string]string{
		"A:NTH-CHILD( 2n+1 )>b": "A:nth-child(2n+1) > b", "a:first-of-type": "a:nth-child(1 of a)", "p|a:nth-of-type(odd)": "p|a:nth-child(2n+1 of p|a)", "[p|a|='b'S]": `[p|a|="b" s]`, ":first-line,b:After": "::first-line, b::after", ":Not( * ,|b):any-LINK": ":not(*, |b):any-link", ":nth-child(even OF a,b c)": ":nth-child(2n of a, b c)", `\-|a`: `\-|a`, "a/**/>/**/b": "a > b",
	} {
		list, err := parse.Selectors([]byte(s), names)
		if got := write.Text(list); got != want || err != nil {
			t.Errorf("%q: %q, %v, not %q", s, got, err, want)
		}
	}
	for _, x := range [][2]int{{0, 0}, {1, -1}, {-7, 12}, {1000001, 5}} {
		if got := write.Simple(nth(x[0], x[1])); got != ":nth-child("+anb.Text(x[0], x[1])+")" {
			t.Error(got)
		}
	}
	for _, s := range []string{"", "a", "1", "\x00", "\xff\n", "é \""} {
		got := write.Simple(simple{Kind: api.SelAttr, Name: s, Cond: api.Cond{Op: api.OpIs, Text: s}})
		if got != "["+chars.Ident(s)+"="+chars.Quote(s)+"]" {
			t.Errorf("%q: %q", s, got)
		}
	}
}
