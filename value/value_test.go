package value_test

import (
	"slices"
	"testing"

	"wattle/api"
	"wattle/value"
)

// P6.1: each operator, ordinary values and the edges.
func TestHolds(t *testing.T) {
	for _, x := range []struct {
		op    int
		text  string
		value string
		want  bool
	}{
		{api.OpHas, "", "", true}, {api.OpHas, "x", "", true}, {api.OpHas, "x", "y", true}, {api.OpHas, " ", "\xff", true},
		{api.OpIs, "", "", true}, {api.OpIs, "a", "a", true}, {api.OpIs, "a", "A", false}, {api.OpIs, "", "a", false}, {api.OpIs, "a", "", false}, {api.OpIs, "a", "ab", false}, {api.OpIs, "ab", "a", false}, {api.OpIs, "a b", "a b", true}, {api.OpIs, "a", " a", false}, {api.OpIs, "\xff", "\xff", true}, {api.OpIs, "\xff", "\ufffd", false},
		{api.OpWord, "b", "a b", true}, {api.OpWord, "b", "ab", false}, {api.OpWord, "a", "a b", true}, {api.OpWord, "a", "a", true}, {api.OpWord, "a", " a ", true}, {api.OpWord, "b", "a b c", true}, {api.OpWord, "b", "a\tb\nc", true}, {api.OpWord, "b", "a\fb\rc", true}, {api.OpWord, "b", "a  b", true}, {api.OpWord, "b", "bb b", true}, {api.OpWord, "b", "bb", false}, {api.OpWord, "b", "b-", false}, {api.OpWord, "b", "", false}, {api.OpWord, "b", " ", false},
		{api.OpWord, "b", "a\vb", false}, {api.OpWord, "b", "a\x00b", false}, {api.OpWord, "b", "a\u00a0b", false}, {api.OpWord, "b", "a\u2003b", false}, {api.OpWord, "b", "a\u0085b", false}, {api.OpWord, "b", "a,b", false}, {api.OpWord, "\xff", "a \xff", true}, {api.OpWord, "\xff", "a \ufffd", false}, {api.OpWord, "a\vb", "a\vb c", true}, {api.OpWord, "\u00a0", "\u00a0 a", true},
		{api.OpWord, "", "", false}, {api.OpWord, "", "a", false}, {api.OpWord, "", "a  b", false}, {api.OpWord, "", " ", false}, {api.OpWord, "a b", "a b", false}, {api.OpWord, "a ", "a ", false}, {api.OpWord, " ", " ", false}, {api.OpWord, "a\tb", "a\tb", false}, {api.OpWord, "a\nb", "a\nb", false}, {api.OpWord, "a\fb", "a\fb", false}, {api.OpWord, "a\rb", "a\rb", false}, {api.OpWord, " a", "b a", false},
		{api.OpDash, "en", "en", true}, {api.OpDash, "en", "en-US", true}, {api.OpDash, "en", "en-", true}, {api.OpDash, "en", "english", false}, {api.OpDash, "en", "e", false}, {api.OpDash, "en", "", false}, {api.OpDash, "en", "xen", false}, {api.OpDash, "en", "x-en", false}, {api.OpDash, "en", "en_", false}, {api.OpDash, "en-US", "en", false}, {api.OpDash, "en", "EN-us", false}, {api.OpDash, "en-", "en-", true}, {api.OpDash, "en-", "en--", true}, {api.OpDash, "en-", "en-x", false}, {api.OpDash, "a b", "a b-c", true}, {api.OpDash, " ", " -", true},
		{api.OpDash, "", "", true}, {api.OpDash, "", "-", true}, {api.OpDash, "", "-x", true}, {api.OpDash, "", "x", false}, {api.OpDash, "", "x-", false}, {api.OpDash, "en", "en\u2010US", false},
		{api.OpBegin, "a", "a", true}, {api.OpBegin, "a", "ab", true}, {api.OpBegin, "b", "ab", false}, {api.OpBegin, "ab", "a", false}, {api.OpBegin, "a", "Ab", false}, {api.OpBegin, "", "", false}, {api.OpBegin, "", "a", false}, {api.OpBegin, " ", " a", true}, {api.OpBegin, "\xc3", "é", true}, {api.OpBegin, "a", "", false},
		{api.OpEnd, "b", "b", true}, {api.OpEnd, "b", "ab", true}, {api.OpEnd, "a", "ab", false}, {api.OpEnd, "ab", "b", false}, {api.OpEnd, "B", "ab", false}, {api.OpEnd, "", "", false}, {api.OpEnd, "", "a", false}, {api.OpEnd, " ", "a ", true}, {api.OpEnd, "\xa9", "é", true}, {api.OpEnd, "a", "", false},
		{api.OpPart, "b", "abc", true}, {api.OpPart, "bc", "abc", true}, {api.OpPart, "ab", "abc", true}, {api.OpPart, "abc", "abc", true}, {api.OpPart, "ac", "abc", false}, {api.OpPart, "B", "abc", false}, {api.OpPart, "abcd", "abc", false}, {api.OpPart, "", "", false}, {api.OpPart, "", "a", false}, {api.OpPart, " ", "a b", true}, {api.OpPart, "aab", "aaab", true}, {api.OpPart, "\xa9", "éa", true}, {api.OpPart, "a", "", false},
		{0, "a", "a", false}, {0, "", "", false}, {8, "a", "a", false}, {8, "", "", false}, {-1, "a", "a", false}, {1 << 32, "a", "a", false}, {1<<32 + 2, "a", "a", false}, {-1 << 63, "", "", false},
	} {
		if got := value.Holds(api.Cond{Op: x.op, Text: x.text}, x.value); got != x.want {
			t.Errorf("%d %q of %q: %t", x.op, x.text, x.value, got)
		}
	}
}

// P6.1: with Fold great and small letters of ASCII are alike, on both sides, and nothing else is.
func TestHoldsWithFold(t *testing.T) {
	for _, x := range []struct {
		op          int
		text, value string
		want        bool
	}{
		{api.OpHas, "A", "b", true}, {api.OpIs, "a", "A", true}, {api.OpIs, "A", "a", true}, {api.OpIs, "aBz", "AbZ", true}, {api.OpIs, "a", "b", false}, {api.OpIs, "é", "É", false}, {api.OpIs, "k", "\u212a", false}, {api.OpIs, "@[", "`{", false}, {api.OpIs, "\xc1", "\xe1", false}, {api.OpIs, "A\xff", "a\xff", true}, {api.OpIs, "", "", true},
		{api.OpWord, "B", "a b", true}, {api.OpWord, "b", "A\rB", true}, {api.OpWord, "B", "ab", false}, {api.OpWord, "", "", false}, {api.OpWord, "A B", "a b", false}, {api.OpDash, "EN", "en-us", true}, {api.OpDash, "en", "EN-US", true}, {api.OpDash, "EN", "english", false}, {api.OpDash, "", "-X", true},
		{api.OpBegin, "A", "ab", true}, {api.OpBegin, "a", "AB", true}, {api.OpBegin, "B", "ab", false}, {api.OpBegin, "", "A", false}, {api.OpEnd, "B", "ab", true}, {api.OpEnd, "b", "AB", true}, {api.OpEnd, "A", "ab", false}, {api.OpEnd, "", "A", false}, {api.OpPart, "B", "abc", true}, {api.OpPart, "b", "ABC", true}, {api.OpPart, "AC", "abc", false}, {api.OpPart, "", "A", false},
		{0, "A", "a", false}, {8, "A", "A", false},
	} {
		if got := value.Holds(api.Cond{Op: x.op, Text: x.text, Fold: true}, x.value); got != x.want {
			t.Errorf("%d %q of %q: %t", x.op, x.text, x.value, got)
		}
	}
}

// P6.1: of each of a list, in order.
func TestAll(t *testing.T) {
	list := []api.Cond{{Op: api.OpIs, Text: "a b"}, {Op: api.OpWord, Text: "c"}, {Op: api.OpWord, Text: "B", Fold: true}, {Op: 9}, {Op: api.OpHas}, {Op: api.OpEnd, Text: "B"}, {Op: api.OpEnd, Text: "B", Fold: true}}
	if got := value.All(list, "a b"); !slices.Equal(got, []bool{true, false, true, false, true, false, true}) {
		t.Error(got)
	}
	if got := value.All(list, ""); !slices.Equal(got, []bool{false, false, false, false, true, false, false}) {
		t.Error(got)
	}
	if got := value.All(nil, "a"); len(got) != 0 {
		t.Error(got)
	}
}

// P6.2: conditions that hold of some value, and of none.
func TestNeverAndLeast(t *testing.T) {
	for _, x := range []struct {
		op   int
		text string
		some bool
		want string
	}{
		{api.OpHas, "", true, ""}, {api.OpHas, "x", true, ""}, {api.OpHas, "a b", true, ""}, {api.OpIs, "", true, ""}, {api.OpIs, "Ab", true, "Ab"}, {api.OpIs, "a b", true, "a b"}, {api.OpIs, "\x00\xff", true, "\x00\xff"},
		{api.OpWord, "Ab", true, "Ab"}, {api.OpWord, "a\vb", true, "a\vb"}, {api.OpWord, "a\u00a0", true, "a\u00a0"}, {api.OpWord, "\xff", true, "\xff"}, {api.OpWord, "", false, ""}, {api.OpWord, " ", false, ""}, {api.OpWord, "a b", false, ""}, {api.OpWord, "a\tb", false, ""}, {api.OpWord, "a\nb", false, ""}, {api.OpWord, "\fa", false, ""}, {api.OpWord, "a\r", false, ""},
		{api.OpDash, "", true, ""}, {api.OpDash, "En", true, "En"}, {api.OpDash, "a -", true, "a -"}, {api.OpBegin, "", false, ""}, {api.OpBegin, "aB c", true, "aB c"}, {api.OpEnd, "", false, ""}, {api.OpEnd, " aB", true, " aB"}, {api.OpPart, "", false, ""}, {api.OpPart, "aB\t", true, "aB\t"},
		{0, "a", false, ""}, {0, "", false, ""}, {8, "a", false, ""}, {8, "", false, ""}, {-1, "a", false, ""}, {1<<32 + 1, "a", false, ""},
	} {
		for _, fold := range []bool{false, true} {
			c := api.Cond{Op: x.op, Text: x.text, Fold: fold}
			if got := value.Never(c); got == x.some {
				t.Errorf("%v: Never is %t", c, got)
			}
			if got, some := value.Least(c); got != x.want || some != x.some {
				t.Errorf("%v: Least is %q, %t", c, got, some)
			}
		}
	}
}

// P6.3: each line of the chapter, and what it leaves out.
func TestImplies(t *testing.T) {
	const has, is, word, dash, begin, end, part = api.OpHas, api.OpIs, api.OpWord, api.OpDash, api.OpBegin, api.OpEnd, api.OpPart
	for _, x := range []struct {
		a    int
		text string
		b    int
		of   string
		want bool
	}{
		{has, "", has, "", true}, {has, "a", has, "b", true}, {is, "a", has, "b", true}, {0, "a", has, "", true}, {part, "a", has, "", true}, {dash, "", has, "", true},
		{0, "a", is, "b", true}, {9, "a", 0, "b", true}, {word, "", is, "a", true}, {word, "a b", word, "c", true}, {begin, "", end, "a", true}, {end, "", begin, "a", true}, {part, "", is, "", true}, {part, "", 9, "", true},
		{has, "", is, "", false}, {has, "a", is, "a", false}, {has, "", dash, "", false}, {has, "a", part, "a", false}, {has, "a", 0, "a", false}, {has, "a", 8, "a", false},
		{is, "ab", is, "ab", true}, {is, "ab", is, "a", false}, {is, "", is, "", true}, {is, "a b", word, "b", true}, {is, "ab", word, "b", false}, {is, "en-x", dash, "en", true}, {is, "enx", dash, "en", false}, {is, "", dash, "", true}, {is, "ab", begin, "a", true}, {is, "ab", begin, "b", false}, {is, "ab", end, "b", true}, {is, "ab", end, "a", false}, {is, "abc", part, "b", true}, {is, "abc", part, "d", false}, {is, "a", 0, "a", false}, {is, "a", begin, "", false}, {is, "", part, "", false},
		{word, "a", word, "a", true}, {word, "a", word, "b", false}, {word, "ab", word, "a", false}, {word, "a", word, "", false}, {word, "a", is, "a", false}, {word, "a", dash, "a", false}, {word, "ab", begin, "a", false}, {word, "ab", end, "b", false}, {word, "abc", part, "b", true}, {word, "ab", part, "ab", true}, {word, "ab", part, "c", false}, {word, "ab", part, "", false},
		{dash, "en", dash, "en", true}, {dash, "", dash, "", true}, {dash, "en-US", dash, "en", false}, {dash, "en", dash, "en-US", false}, {dash, "-", dash, "", false}, {dash, "en", is, "en", false}, {dash, "en", word, "en", false}, {dash, "en", begin, "en", false}, {dash, "en", end, "en", false}, {dash, "en", part, "en", false}, {dash, "", is, "", false}, {dash, "a", 0, "a", false},
		{begin, "ab", begin, "a", true}, {begin, "ab", begin, "ab", true}, {begin, "a", begin, "ab", false}, {begin, "ab", begin, "b", false}, {begin, "ab", begin, "", false}, {begin, "ab", part, "b", true}, {begin, "ab", part, "c", false}, {begin, "ab", end, "ab", false}, {begin, "ab", is, "ab", false}, {begin, "ab", word, "ab", false}, {begin, "a-", dash, "a", false}, {begin, "ab", part, "", false},
		{end, "ab", end, "b", true}, {end, "ab", end, "ab", true}, {end, "b", end, "ab", false}, {end, "ab", end, "a", false}, {end, "ab", end, "", false}, {end, "ab", part, "a", true}, {end, "ab", part, "c", false}, {end, "ab", begin, "ab", false}, {end, "ab", is, "ab", false}, {end, "ab", word, "ab", false}, {end, "-a", dash, "", false},
		{part, "abc", part, "b", true}, {part, "abc", part, "abc", true}, {part, "b", part, "abc", false}, {part, "b", part, "", false}, {part, "ab", begin, "a", false}, {part, "ab", end, "b", false}, {part, "ab", is, "ab", false}, {part, "ab", word, "ab", false}, {part, "ab", dash, "ab", false}, {part, "a", 8, "a", false},
	} {
		for _, fold := range []bool{false, true} {
			if got := value.Implies(api.Cond{Op: x.a, Text: x.text, Fold: fold}, api.Cond{Op: x.b, Text: x.of, Fold: fold}); got != x.want {
				t.Errorf("%d %q, %d %q, %t: %t", x.a, x.text, x.b, x.of, fold, got)
			}
		}
	}
}

// P6.3: with Fold of one of both, or of both.
func TestImpliesWithFold(t *testing.T) {
	for _, x := range []struct {
		op      int
		text    string
		b       int
		of      string
		neither bool
		second  bool // the same with Fold of b alone, and of both
	}{
		{api.OpIs, "AB", api.OpIs, "ab", false, true}, {api.OpIs, "ab", api.OpIs, "AB", false, true}, {api.OpIs, "ab", api.OpIs, "ab", true, true}, {api.OpIs, "ab", api.OpIs, "ac", false, false}, {api.OpIs, "A B", api.OpWord, "b", false, true}, {api.OpIs, "EN-x", api.OpDash, "en", false, true}, {api.OpIs, "aBc", api.OpPart, "b", false, true}, {api.OpIs, "É", api.OpIs, "é", false, false},
		{api.OpWord, "AB", api.OpWord, "ab", false, true}, {api.OpWord, "ab", api.OpWord, "AB", false, true}, {api.OpWord, "É", api.OpWord, "é", false, false}, {api.OpDash, "EN", api.OpDash, "en", false, true}, {api.OpDash, "en", api.OpDash, "EN", false, true}, {api.OpDash, "en", api.OpDash, "en", true, true}, {api.OpDash, "EN-US", api.OpDash, "en", false, false}, {api.OpDash, "É", api.OpDash, "é", false, false},
		{api.OpBegin, "AB", api.OpBegin, "a", false, true}, {api.OpEnd, "AB", api.OpEnd, "b", false, true}, {api.OpPart, "aBc", api.OpPart, "b", false, true}, {api.OpPart, "abc", api.OpPart, "B", false, true}, {api.OpWord, "AB", api.OpPart, "b", false, true}, {api.OpBegin, "AB", api.OpPart, "b", false, true}, {api.OpEnd, "AB", api.OpPart, "a", false, true}, {api.OpBegin, "a", api.OpEnd, "A", false, false}, {api.OpDash, "A", api.OpPart, "a", false, false},
		{api.OpIs, "a", api.OpHas, "b", true, true}, {api.OpWord, "", api.OpIs, "a", true, true},
	} {
		cond := func(op int, text string, fold bool) api.Cond { return api.Cond{Op: op, Text: text, Fold: fold} }
		always := x.b == api.OpHas || x.text == ""
		for _, y := range []struct{ a, b, want bool }{{false, false, x.neither}, {false, true, x.second}, {true, true, x.second}, {true, false, always}} {
			if got := value.Implies(cond(x.op, x.text, y.a), cond(x.b, x.of, y.b)); got != y.want {
				t.Errorf("%d %q %t, %d %q %t: %t", x.op, x.text, y.a, x.b, x.of, y.b, got)
			}
		}
	}
}
