package blocks_test

import (
	"math"
	"testing"

	"wattle/api"
	"wattle/blocks"
)

// P19.1: rules of whole lists of tokens, at the top, and where they are others elsewhere.
func TestRules(t *testing.T) {
	for _, x := range []struct{ in, top, within string }{
		{"", "", "="},
		{"  ", "", "="},
		{"a", "", "="},
		{"a{}", "0-1 {2-2}", "="},
		{"a{", "0-1 {2-2}", "="},
		{"a{b", "0-1 {2-3}", "="},
		{"{}", "0-0 {1-1}", "="},
		{" {}{", "1-1 {2-2}; 3-3 {4-4}", "="},
		{" a b { c } ", "1-5 {6-9}", "="},
		{"a{x:1} @m y{} b{ }", "0-1 {2-5}; @m 8-10 {11-11}; 13-14 {15-16}", "="}, // the chapter's first example
		{"a{}b{}", "0-1 {2-2}; 3-4 {5-5}", "="},
		{"a{};b{}", "0-1 {2-2}; 3-5 {6-6}", "="},
		{"a;b{}", "0-3 {4-4}", "="},
		{"a{}b", "0-1 {2-2}", "="},
		{"a{}b;@m;c", "0-1 {2-2}", "="},
		{"a @m;b{}", "0-5 {6-6}", "="},
		{"a,b:c{}", "0-5 {6-6}", "="},

		// Component values: what is within a block ends nothing.
		{"a ({})b{}", "0-7 {8-8}", "="},
		{"a({})b{}", "0-5 {6-6}", "="},
		{"a[{}]b{}", "0-6 {7-7}", "="},
		{"a([{)]})b{}", "", "="},
		{"a({[}]}){}", "0-7 {8-8}", "="},
		{"a(f()[]{}()){}", "0-10 {11-11}", "="},
		{"a{{}}b{}", "0-1 {2-4}; 5-6 {7-7}", "="},
		{"a{(}b{})}c{}", "0-1 {2-8}; 9-10 {11-11}", "="},
		{"a{f(}b{})}c{}", "0-1 {2-8}; 9-10 {11-11}", "="},
		{"a{[}b{}]}c{}", "0-1 {2-8}; 9-10 {11-11}", "="},
		{"a{(}", "0-1 {2-4}", "="},
		{"a{([}])", "0-1 {2-7}", "="},
		{"a{)]b}c{}", "0-1 {2-5}; 6-7 {8-8}", "="},
		{")a]}b{}", "0-5 {6-6}", "="},
		{"a(", "", "="},
		{"a(b{}", "", "="},

		// At-rules.
		{"@m", "@m 1-1", "="},
		{"@m;", "@m 1-1", "="},
		{"@m ", "@m 1-2", "="},
		{"@m a ;b", "@m 1-4", "="},
		{"@m a;b{}", "@m 1-3; 4-5 {6-6}", "="},
		{"@m{}", "@m 1-1 {2-2}", "="},
		{"@m{", "@m 1-1 {2-2}", "="},
		{"@m a{b;c}d{}", "@m 1-3 {4-7}; 8-9 {10-10}", "="},
		{"@m{};b{}", "@m 1-1 {2-2}; 3-5 {6-6}", "="},
		{"@m{}@n;@o{}", "@m 1-1 {2-2}; @n 4-4; @o 6-6 {7-7}", "="},
		{"@m(;{});a{}", "@m 1-6; 7-8 {9-9}", "="},
		{"@m f(;){}", "@m 1-5 {6-6}", "="},
		{"@m[;", "@m 1-3", "="},
		{"@m a:b}c;", "@m 1-7", "="},
		{"@m @n;@o", "@m 1-3; @o 5-5", "="},
		{"@MeDia-Ö x;", "@media-Ö 1-3", "="},
		{"@--M;", "@--m 1-1", "="},
		{`@\4d \6d;`, "@mm 1-1", "="},

		// Signs around style sheets are passed over at the top, but not within a rule.
		{"<!-- a{} -->", "2-3 {4-4}", "0-3 {4-4}"},
		{"<!--a{}-->b{}<!--", "1-2 {3-3}; 5-6 {7-7}", "0-2 {3-3}; 4-6 {7-7}"},
		{"-->@m;<!-- --> b{}", "@m 2-2; 7-8 {9-9}", "0-8 {9-9}"},
		{"@m;<!--@n;", "@m 1-1; @n 4-4", "@m 1-1"},
		{"a<!--{}@m -->;-->", "0-2 {3-3}; @m 5-7", "="},
		{"<!-- -->", "", "="},
		{"a{<!--}", "0-1 {2-3}", "="},
	} {
		list := read(x.in)
		if got := tellRules(blocks.Rules(list, 0, len(list), true)); got != x.top {
			t.Errorf("%q: %s, not %s", x.in, got, x.top)
		}
		if x.within == "=" {
			x.within = x.top
		}
		if got := tellRules(blocks.Rules(list, 0, len(list), false)); got != x.within {
			t.Errorf("%q, not at the top: %s, not %s", x.in, got, x.within)
		}
	}
}

// P19.1: declarations of whole lists of tokens.
func TestDecls(t *testing.T) {
	for in, want := range map[string]string{
		"":                                  "",
		" ; ;; ":                            "",
		"a":                                 "",
		"a:":                                "a 2-2",
		"a:;":                               "a 2-2",
		"a: ;":                              "a 2-2",
		"a:b":                               "a 2-3",
		" a\n:\tb ;":                        "a 5-6",
		"a:b;c:d":                           "a 2-3; c 6-7",
		";;a:b;;c:d;;":                      "a 4-5; c 9-10",
		"x : 1 2 ! Important ; y:":          "x 4-7!; y 16-16", // the chapter's first example
		"a:b:c":                             "a 2-5",
		"a::b":                              "a 2-4",
		"a:b c:d":                           "a 2-7",
		"a /**/ : b":                        "a 5-6",
		"a b:c":                             "",
		"a,:c;d:e":                          "d 7-8",
		"a;:b;c:d":                          "c 7-8",
		":a;.b:c;#d:e;1:f;'g':h;{}:i;a():b": "",
		"f(:b;c:d);e:f":                     "e 11-12",
		"<!--a:b;-->c:d;e:f":                "e 12-13",
		"a{b:c;d:e};f:g":                    "f 13-14",
		"a:{b:c;d:e};f:g":                   "a 2-11; f 14-15",
		"a:(b;c;[d;{e;}f;]);g:h":            "a 2-18; g 21-22",
		"a:f(;);g:h":                        "a 2-5; g 8-9",
		"a:(b;c:d":                          "a 2-8",
		"a:[)];}b:c;d:e":                    "a 2-5; d 13-14",
		"a:};b:)":                           "a 2-3; b 6-7",
		"(a:b;c:d)e:f;g:h":                  "g 15-16",
		"}a:b;c:d":                          "c 7-8",
		"a{}b:c":                            "",

		// At-rules are passed over, with their blocks or semicolons.
		"@m;a:b":                "a 4-5",
		"@m a:b;c:d":            "c 8-9",
		"@m{a:b;c:d}e:f":        "e 12-13",
		"@m{a:b};c:d":           "c 9-10",
		"@m{a:b} @n{} c:d;@o":   "c 13-14",
		"a:@m{b;c};d:e":         "a 2-8; d 11-12",
		"a@m:b;c:d":             "c 7-8",
		"@m(;{a:b})c:d;e:f;@n:": "e 15-16",
		"@m{a:b":                "",

		// Names with small letters, but for those that anybody may make.
		"COLOR-É:B":        "color-É 2-3",
		"--A:b;-A:c;---D:": "--A 2-3; -a 6-7; ---D 10-10",
		`\2d-A:b`:          "--A 2-3",
		`\41 :b`:           "a 2-3",
		"--:a":             "-- 2-3",

		// Important.
		"a:b!important":                       "a 2-3!",
		"a:b ! imPORTANT ;":                   "a 2-3!",
		"a:b!/**/ /**/important/**/ /**/":     "a 2-3!",
		"a:!important":                        "a 2-2!",
		"a: ! important ":                     "a 3-3!",
		"a:important":                         "a 2-3",
		"a:!":                                 "a 2-3",
		"a:! ":                                "a 2-3",
		"a:b!important c":                     "a 2-7",
		"a:b!important!important":             "a 2-5!",
		"a:!!important":                       "a 2-3!",
		"a:b important":                       "a 2-5",
		"a:b!'important'":                     "a 2-5",
		"a:b!important()":                     "a 2-6",
		"a:b!importan":                        "a 2-5",
		"a:b!importants":                      "a 2-5",
		"a:b'!'important":                     "a 2-5",
		"a:b.important":                       "a 2-5",
		`a:b!\49mportant`:                     "a 2-3!",
		"a:b!,important":                      "a 2-6",
		"a:(b!important)":                     "a 2-7",
		"a:{}!important":                      "a 2-4!",
		"--A:b!important;c:!important;d!:e":   "--A 2-3!; c 8-8!",
		"!important:b":                        "",
		"important:b;important!important:c":   "important 2-3",
		"important :important!important;!a:b": "important 3-4!",
		"a!important":                         "",
	} {
		list := read(in)
		if got := tellDecls(blocks.Decls(list, 0, len(list))); got != want {
			t.Errorf("%q: %s, not %s", in, got, want)
		}
	}
}

// P19.1: the place behind a component value, from each place on, up to the list's end.
func TestValue(t *testing.T) {
	for _, x := range []struct {
		in   string
		want []int
	}{
		{"", []int{0}},
		{"a", []int{1, 1}},
		{" a;", []int{1, 2, 3, 3}},
		{"()", []int{2, 2, 2}},
		{"f()", []int{2, 2, 2}},
		{"[]", []int{2, 2, 2}},
		{"{}", []int{2, 2, 2}},
		{"(]", []int{2, 2, 2}},
		{"f(}", []int{2, 2, 2}},
		{"[)a", []int{3, 2, 3, 3}},
		{"{])", []int{3, 2, 3, 3}},
		{"(a)b", []int{3, 2, 3, 4, 4}},
		{"([)])b", []int{5, 4, 3, 4, 5, 6, 6}},
		{"(()", []int{3, 3, 3, 3}},
		{"(f()[]{})a", []int{8, 3, 3, 5, 5, 7, 7, 8, 9, 9}},
		{" (a[b)]) c ", []int{1, 8, 3, 7, 5, 6, 7, 8, 9, 10, 11, 11}},
		{"@m{}<!---->'a'", []int{1, 3, 3, 4, 5, 6, 6}},
	} {
		list := read(x.in)
		if len(x.want) != len(list) {
			t.Fatalf("%q: %d tokens", x.in, len(list))
		}
		for at, want := range x.want {
			if got := blocks.Value(list, at, len(list)); got != want {
				t.Errorf("%q, %d: %d, not %d", x.in, at, got, want)
			}
		}
	}
}

// P19.1: of an empty part the place as it was handed in, also one ahead of the list's beginning; of others that counts as 0.
func TestValueOfAnEmptyPart(t *testing.T) {
	for _, list := range [][]api.Token{nil, {}, row("E"), row("Ea"), row("a"), row("(a)a"), row(" ")} {
		ends := []int{math.MinInt, -2, -1, 0}
		if len(list) == 0 || list[0].Kind == api.TokEnd {
			ends = append(ends, 1, 2, 9, math.MaxInt)
		}
		for _, at := range []int{math.MinInt, -5, -2, -1, 0} {
			for _, to := range ends {
				if got := blocks.Value(list, at, to); got != at {
					t.Errorf("%v, %d to %d: %d", list, at, to, got)
				}
			}
		}
	}
	for _, x := range []struct {
		in           string
		at, to, want int
	}{
		{"a", -1, 1, 1}, {"a", -1, 9, 1}, {"aE", math.MinInt, math.MaxInt, 1}, {"(a)a", -3, 9, 3}, {"(a)a", -3, 2, 2}, {" ", -1, 1, 1},
		{"a", 1, 0, 1}, {"a", 1, 9, 1}, {"a", 2, 9, 2}, {"aEa", 1, 9, 1}, {"aEa", 2, 1, 2},
	} {
		if got := blocks.Value(row(x.in), x.at, x.to); got != x.want {
			t.Errorf("%q, %d to %d: %d, not %d", x.in, x.at, x.to, got, x.want)
		}
	}
}

// P19.1: parts without the blanks around them.
func TestTrim(t *testing.T) {
	for _, x := range []struct {
		in             string
		from, to, a, b int
	}{
		{"", 0, 0, 0, 0}, {"", 0, 1, 0, 0}, {" ", 0, 1, 0, 0}, {" ", 1, 1, 1, 1}, {" ", 0, 2, 0, 0},
		{" /**/ /**/ ", 0, 3, 0, 0}, {" /**/ /**/ ", 1, 3, 1, 1}, {" /**/ a /**/ ", 0, 9, 2, 3}, {" a ", 2, 3, 2, 2},
		{"a", 0, 1, 0, 1}, {"a", 0, 9, 0, 1}, {" a", 0, 2, 1, 2}, {"a ", 0, 2, 0, 1}, {" a b ", 0, 5, 1, 4}, {" a b ", 2, 5, 3, 4}, {" a b ", 0, 3, 1, 2}, {" a b ", 1, 2, 1, 2}, {" a b ", 2, 3, 2, 2},
		{"<!-- ;", 0, 3, 0, 3}, {" ; ", 0, 3, 1, 2},
	} {
		list := read(x.in)
		if a, b := blocks.Trim(list, x.from, x.to); a != x.a || b != x.b {
			t.Errorf("%q, %d, %d: %d, %d", x.in, x.from, x.to, a, b)
		}
	}
}

// P19.1: a part's bounds, and a TokEnd that stands in it.
func TestParts(t *testing.T) {
	list := row(" a{a:a}Ea{a:(}a{")
	for _, x := range []struct {
		from, to                 int
		rules, decls, value, cut string
	}{
		{0, 99, "1-2 {3-6}", "", "1", "1-7"},
		{0, math.MaxInt, "1-2 {3-6}", "", "1", "1-7"},
		{math.MinInt, 8, "1-2 {3-6}", "", "1", "1-7"},
		{-1, 7, "1-2 {3-6}", "", "1", "1-7"},
		{2, 6, "2-2 {3-6}", "", "6", "2-6"},
		{2, 99, "2-2 {3-6}", "", "7", "2-7"},
		{3, 6, "", "a 5-6", "4", "3-6"},
		{3, 5, "", "a 5-5", "4", "3-5"},
		{3, 4, "", "", "4", "3-4"},
		{3, 99, "", "a 5-7", "4", "3-7"},
		{7, 99, "", "", "7", "7-7"},
		{8, 99, "8-9 {10-16}", "", "9", "8-16"},
		{13, 99, "13-15 {16-16}", "", "14", "13-16"},
		{13, 15, "", "", "14", "13-15"},
		{5, 5, "", "", "5", "5-5"}, {5, 4, "", "", "5", "5-5"}, {5, -1, "", "", "5", "5-5"}, {5, math.MinInt, "", "", "5", "5-5"},
		{16, 16, "", "", "16", "16-16"}, {17, 18, "", "", "17", "17-17"}, {math.MaxInt, math.MaxInt, "", "", "9223372036854775807", "9223372036854775807-9223372036854775807"}, {math.MaxInt, 3, "", "", "9223372036854775807", "9223372036854775807-9223372036854775807"},
		{-1, 0, "", "", "-1", "0-0"}, {-5, -3, "", "", "-5", "0-0"}, {-3, -5, "", "", "-3", "0-0"}, {math.MinInt, math.MinInt, "", "", "-9223372036854775808", "0-0"},
	} {
		for _, top := range []bool{false, true} {
			if got := tellRules(blocks.Rules(list, x.from, x.to, top)); got != x.rules {
				t.Errorf("rules of %d, %d: %s", x.from, x.to, got)
			}
		}
		if got := tellDecls(blocks.Decls(list, x.from, x.to)); got != x.decls {
			t.Errorf("declarations of %d, %d: %s", x.from, x.to, got)
		}
		if got := number(blocks.Value(list, x.from, x.to)); got != x.value {
			t.Errorf("value of %d, %d: %s", x.from, x.to, got)
		}
		a, b := blocks.Trim(list, x.from, x.to)
		if got := number(a) + "-" + number(b); got != x.cut {
			t.Errorf("trimmed %d, %d: %s", x.from, x.to, got)
		}
	}
	for _, some := range [][]api.Token{nil, {}} {
		if got := blocks.Rules(some, 0, 9, true); len(got) != 0 {
			t.Errorf("%v", got)
		}
		if got := blocks.Decls(some, 0, 9); len(got) != 0 {
			t.Errorf("%v", got)
		}
	}
}
