package sheet_test

import (
	"slices"
	"strings"
	"testing"

	"wattle/api"
	"wattle/sheet"
)

// check holds what is read of texts against namespaces, conditions with a semicolon between them, and styles.
func check(t *testing.T, list [][4]string) {
	t.Helper()
	for _, x := range list {
		s, err := sheet.Read([]byte(x[0]))
		if err != nil {
			t.Errorf("%q: %v", x[0], err)
			continue
		}
		if got := tellNames(s.Names); got != x[1] {
			t.Errorf("%q: the namespaces %s, not %s", x[0], got, x[1])
		}
		if got := strings.Join(s.Conds, ";"); got != x[2] {
			t.Errorf("%q: the conditions %q, not %q", x[0], got, x[2])
		}
		if got := tellStyles(s.Styles); got != x[3] {
			t.Errorf("%q: the styles\n%s, not\n%s", x[0], got, x[3])
		}
	}
}

// P20.1: styles by themselves.
func TestStyles(t *testing.T) {
	check(t, [][4]string{
		{"", "", "", ""},
		{" /* a{} */ ", "", "", ""},
		{"a", "", "", ""},
		{"a{}", "", "", "0 a"},
		{"a{", "", "", "0 a"},
		{"a{b:c", "", "", "0 a {b|c}"},
		{" a , b > c {D:e ; f: 1  2 !IMPORTANT}", "", "", "1 a, b > c {d|e} {f|1 2}!"},
		{"a{} b{}", "", "", "0 a\n4 b"},
		{"a{b:c;b:d;B:e}a{b:c}", "", "", "0 a {b|c} {b|d} {b|e}\n14 a {b|c}"},
		{"<!-- a{} -->b{}", "", "", "5 a\n12 b"},
		{"é{}😀{}", "", "", "0 é\n3 😀"},
		{"\ufeffa{}\r\nb{}", "", "", "0 a\n4 b"},
		{"a{--X:y;--x:(1;2)}", "", "", "0 a {--X|y} {--x|(/**/1/**/;/**/2/**/)}"},
		{"a{b:;c: !important}", "", "", "0 a {b|} {c|}!"},
		{"a{b:url( x ) 'y'#z 5PX 1.50% \\26  f(g)}", "", "", `0 a {b|url(x) "y"/**/#z 5PX 1.50% \& f(g/**/)}`},
		{"a{b{c:d}e:f;g:h}", "", "", "0 a {g|h}"},
		{"a{@media x{b:c}d:e}", "", "", "0 a {d|e}"},

		// Selectors with an error have neither a list nor declarations.
		{"{a:b}", "", "", "0 error 10"},
		{" {} {a:b}", "", "", "1 error 10\n4 error 10"},
		{"a,{b:c}d{e:f}", "", "", "0 error 10\n7 d {e|f}"},
		{":bogus{a:b}", "", "", "0 error 10"},
		{"a;b{c:d}", "", "", "0 error 10"},
		{"p|a{b:c}", "", "", "0 error 14"},
		{"a:last-child{b:c}", "", "", "0 error 20"},
		{":nth-child(1000001){b:c}", "", "", "0 error 3"},
		{strings.Repeat(":is(", 33) + "a" + strings.Repeat(")", 33) + "{b:c}", "", "", "0 error 12"},
		{"a<!--{}b-->{}", "", "", "0 error 10\n7 error 10"},
	})
}

// P20.1: conditions, and what stands in them.
func TestConds(t *testing.T) {
	check(t, [][4]string{
		{"@media x{a{b:1}} c{d:2 ! important}", "", "media x", "9 a in [0] {b|1}\n17 c {d|2}!"}, // the chapter's example
		{"@media{a{}}", "", "media ", "7 a in [0]"},
		{"@media {a{}}@media/**/{b{}}", "", "media ", "8 a in [0]\n23 b in [0]"},
		{"@MEDIA  ( A:b )and c {}", "", "media ( A/**/:/**/b )/**/and c", ""},
		{"@supports not (a:b){c{}}", "", "supports not (/**/a/**/:/**/b/**/)", "20 c in [0]"},
		{"@media x{a{}", "", "media x", "9 a in [0]"},
		{"@media x{a{b:c", "", "media x", "9 a in [0] {b|c}"},
		{"@media x{a", "", "media x", ""},
		{"@media x{}}b{}", "", "media x", "10 error 10"},
		{"@media x;a{}", "", "", "9 a"},
		{"@media x", "", "", ""},
		{"@supports x;@media y", "", "", ""},
		{"@media x{<!-- a{} -->b{}}", "", "media x", "9 error 10 in [0]\n18 error 10 in [0]"},
		{"@media x,y{a{}}@media  X , y{b{}}@media x,y{c{}}", "", "media x/**/,/**/y;media X , y", "11 a in [0]\n29 b in [1]\n44 c in [0]"},
		{"@supports x{a{}}@media x{b{}}", "", "supports x;media x", "12 a in [0]\n25 b in [1]"},
		{`@media \78 {a{}}@media x{b{}}@media "x"{c{}}`, "", `media x;media "x"`, "12 a in [0]\n25 b in [0]\n40 c in [1]"},

		// Within one another.
		{"@media x{a{}@supports y{b{}@media z{c{}}d{}}e{}}f{}", "", "media x;supports y;media z", "9 a in [0]\n24 b in [0 1]\n36 c in [0 1 2]\n40 d in [0 1]\n44 e in [0]\n48 f"},
		{"@media x{@media x{a{}}b{}}", "", "media x", "18 a in [0]\n22 b in [0]"},
		{"@media x{@media y{@media x{a{}}@media z{b{}}}}@media y{@media x{c{}@media y{d{}}}}", "", "media x;media y;media z", "27 a in [0 1]\n40 b in [0 1 2]\n64 c in [1 0]\n76 d in [1 0]"},
		{"@media x{@media y{a{}}@media z{b{}}@media y{c{}}}", "", "media x;media y;media z", "18 a in [0 1]\n31 b in [0 2]\n44 c in [0 1]"},
		{"@media x{@font-face{a{}}@media y;b{}}", "", "media x", "33 b in [0]"},

		// Other at-rules aren't looked at.
		{"@font-face{a{}}@page b{c{}}@layer d{e{}@media x{f{}}}@mediax y{g{}}@-media x{h{}}i{}", "", "", "81 i"},
		{"@import x{a{}}@charset{b{}}@namespace{c{}}", "", "", ""},
		{"@layer a;@import b;c{}", "", "", "19 c"},
	})
}

// P20.1: just so many conditions in one another are looked at.
func TestNest(t *testing.T) {
	for _, x := range []struct {
		open string
		deep int
		read bool
	}{
		{"@media x{", 1, true}, {"@media x{", 32, true}, {"@media x{", 33, false}, {"@media x{", 34, false}, {"@supports x{", 32, true}, {"@supports x{", 33, false}, {"@media x{", 20000, false},
	} {
		in := strings.Repeat(x.open, x.deep) + "a{}" + strings.Repeat("}", x.deep) + "b{}"
		s, err := sheet.Read([]byte(in))
		want := 1
		if x.read {
			want = 2
		}
		if err != nil || len(s.Styles) != want || len(s.Conds) != 1 || len(s.Styles[want-1].Conds) != 0 {
			t.Errorf("%d of %s: %v, %v", x.deep, x.open, s, err)
		}
	}
	// The last one that is met is one of the sheet's, what is within it isn't; and how many stand in one another is counted anew behind it.
	var in strings.Builder
	for i := range 34 {
		in.WriteString("@media " + strings.Repeat("x", i+1) + "{a{}")
	}
	in.WriteString(strings.Repeat("}", 34) + "@supports z{b{}}")
	s, err := sheet.Read([]byte(in.String()))
	if err != nil || len(s.Conds) != 34 || s.Conds[32] != "media "+strings.Repeat("x", 33) || s.Conds[33] != "supports z" || len(s.Styles) != 33 {
		t.Fatalf("%v, %v", s, err)
	}
	for i, x := range s.Styles[:32] {
		if len(x.Conds) != i+1 || x.Conds[0] != 0 || x.Conds[i] != i {
			t.Errorf("%d: %v", i, x.Conds)
		}
	}
	if !slices.Equal(s.Styles[32].Conds, []int{33}) {
		t.Errorf("%v", s.Styles[32])
	}
}

// P20.1: namespaces.
func TestNamespaces(t *testing.T) {
	check(t, [][4]string{
		{`@namespace "u";`, `"u"`, "", ""},
		{`@namespace "u"`, `"u"`, "", ""},
		{`@NameSpace/**/'u' ;`, `"u"`, "", ""},
		{"@namespace url(u);", `"u"`, "", ""},
		{"@namespace\n URL( u )\n;", `"u"`, "", ""},
		{`@namespace "";@namespace p "";`, `"", p=""`, "", ""},
		{`@namespace url();`, `""`, "", ""},
		{`@namespace "u";@namespace "v"`, `"v"`, "", ""},
		{`@namespace p "u";`, `p="u"`, "", ""},
		{`@namespace p"u"`, `p="u"`, "", ""},
		{`@namespace p url(u)`, `p="u"`, "", ""},
		{`@namespace p/**/ /**/url(u)/**/ /**/;`, `p="u"`, "", ""},
		{`@namespace p"u";@namespace q"v";@namespace P"w";`, `p="u", q="v", P="w"`, "", ""},
		{`@namespace p"u";@namespace q"v";@namespace p"w";@namespace r"x";@namespace q"";@namespace \70 "y"`, `p="y", q="", r="x"`, "", ""},
		{`@namespace "u";@namespace p"u";`, `"u", p="u"`, "", ""},
		{`@namespace \30 \0 "\0"`, "0\ufffd=\"\ufffd\"", "", ""},
		{`@namespace`, "", "", ""},

		// What isn't one.
		{`@namespace;@namespace ;@namespace p;@namespace p ;`, "", "", ""},
		{`@namespace "u" "v";@namespace "u"p;@namespace p q "u";@namespace p "u" "v";@namespace p "u",;@namespace ,"u";`, "", "", ""},
		{`@namespace u;@namespace url("u");@namespace p url("u");@namespace p f(u);@namespace 1"u";@namespace *"u";@namespace p,"u";`, "", "", ""},
		{"@namespace p 'u\n';@namespace url(u u);", "", "", ""},
		{"@namespace p 'u\n;@namespace q 'v';", `q="v"`, "", ""},
		{`@namespace("u");@namespace p("u");@namespace p|"u";@namespace p:"u";@namespace #p"u";@namespace @p"u";@namespace 'p''u'`, "", "", ""},
		{`@namespaces "u";@-namespace "u";`, "", "", ""},

		// One with a block isn't looked at, and what stands behind it is.
		{`@namespace p "u"{}@namespace q "v";`, `q="v"`, "", ""},
		{`@namespace "u"{`, "", "", ""},

		// Ahead of all rules but charset, import and namespace, with and without a block.
		{`@charset "x";@import y;@IMPORT{}@Charset{}@namespace p"u";<!--@namespace "v";-->@namespace q"w"`, `"v", p="u", q="w"`, "", ""},
		{`@namespace p"u";a{}@namespace q"v";@namespace p"w";@namespace "x"`, `p="u"`, "", "16 a"},
		{`{}@namespace q"v"`, "", "", "0 error 10"},
		{`@media x{}@namespace q"v"`, "", "media x", ""},
		{`@layer x;@namespace q"v"`, "", "", ""},
		{`@namespace p"u";@page{}@namespace q"v";`, `p="u"`, "", ""},
		{`@media x{@namespace p"u";a{}}`, "", "media x", "25 a in [0]"},
		{`@import x{@namespace p"u";}@namespace q"v"`, `q="v"`, "", ""},

		// Selectors are read with them.
		{`@namespace p"u";@namespace q"v";p|a q|b,[p|c]{d:e}@media x{q|*{}r|*{}P|a{}}`, `p="u", q="v"`, "media x", "32 p|a q|b, [p|c] {d|e}\n59 q|* in [0]\n64 error 14 in [0]\n69 error 14 in [0]"},
		{`p|a{}@namespace p"u";p|b{}`, "", "", "0 error 14\n21 error 14"},
		{`@namespace p"u"{}p|a{}`, "", "", "17 error 14"},
		{`@namespace "u";*|a,|b,c{}`, `"u"`, "", "15 *|a, |b, c"},
		{`@namespace \70 "u";p|a{}:is(p|b:not(q|c)){}`, `p="u"`, "", "19 p|a\n24 error 14"},
		{`@namespace p"u";@namespace q"v";p|a:nth-child(2n of q|b p|c){}`, `p="u", q="v"`, "", "32 p|a:nth-child(2n of q|b p|c)"},
	})
}

// P20.1: at most so many bytes, and so many styles; that there are too many bytes is told first.
func TestLimits(t *testing.T) {
	most := strings.Repeat("a{}", api.MaxStyles)
	for i, x := range []struct {
		in     string
		kind   api.Errno
		at     int
		styles int
	}{
		{most, 0, 0, 4096},
		{most + "a", 0, 0, 4096},
		{most + "@media x{}@page{b{}}c", 0, 0, 4096},
		{most + "a{", api.ErrOver, 0, 0},
		{most + "{}", api.ErrOver, 0, 0},
		{"p|a{}" + most, api.ErrOver, 0, 0},
		{strings.Repeat("{}", 4096), 0, 0, 4096},
		{strings.Repeat("{}", 4097), api.ErrOver, 0, 0},
		{"@media x{" + most + "}", 0, 0, 4096},
		{"@media x{" + most + "a{}}", api.ErrOver, 0, 0},
		{"@media x{" + most + "}a{}", api.ErrOver, 0, 0},
		{"a{}@media x{@media y{" + most + "}}", api.ErrOver, 0, 0},
		{most + most, api.ErrOver, 0, 0},
		{"@page{" + most + "}" + most, 0, 0, 4096},
		{strings.Repeat("@media x{", 33) + most + strings.Repeat("}", 33) + most, 0, 0, 4096},
		{strings.Repeat(" ", api.MaxSheet), 0, 0, 0},
		{"a{}" + strings.Repeat(" ", api.MaxSheet-3), 0, 0, 1},
		{strings.Repeat(" ", api.MaxSheet-3) + "a{}", 0, 0, 1},
		{strings.Repeat(" ", api.MaxSheet-2) + "a{}", api.ErrLong, 1048576, 0},
		{strings.Repeat("é", api.MaxSheet/2), 0, 0, 0},
		{strings.Repeat("é", api.MaxSheet/2) + " ", api.ErrLong, 1048576, 0},
		{most + "a{}" + strings.Repeat(" ", api.MaxSheet), api.ErrLong, 1048576, 0},
		{most + "a{}" + strings.Repeat(" ", api.MaxSheet-len(most)-3), api.ErrOver, 0, 0},
		{strings.Repeat("\x00", 2*api.MaxSheet), api.ErrLong, 1048576, 0},
	} {
		s, err := sheet.Read([]byte(x.in))
		if !isFault(err, x.kind, x.at) || len(s.Styles) != x.styles {
			t.Errorf("%d: %v, %d styles", i, err, len(s.Styles))
		}
		if err != nil && !sheet.Same(s, api.Sheet{}) {
			t.Errorf("%d: %v beside an error", i, s)
		}
	}
}
