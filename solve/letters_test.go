package solve_test

import (
	"math"
	"slices"
	"strings"
	"testing"

	"wattle/api"
	"wattle/solve"
)

// many gives as many conditions with a text.
func many(n int, text string) []api.Cond { return slices.Repeat([]api.Cond{cond(is, text)}, n) }

// P7.1: the characters of all texts, whatever the operator, and what comes with them.
func TestLetters(t *testing.T) {
	for _, x := range []struct {
		list []api.Cond
		want string
	}{
		{nil, " -a"}, {[]api.Cond{}, " -a"}, {[]api.Cond{cond(has, "")}, " -a"}, {[]api.Cond{cond(is, "a")}, " -ab"}, {[]api.Cond{cond(is, "cba")}, " -abcd"}, {[]api.Cond{cond(is, "ca")}, " -abc"}, {[]api.Cond{cond(is, "bb"), cond(end, "a"), cond(is, "b")}, " -abc"},
		{[]api.Cond{cond(has, "x"), cond(0, "y"), cond(9, "z"), cond(word, "p q")}, "\t -apqxyz"}, {[]api.Cond{cond(is, "--")}, " -a"}, {[]api.Cond{cond(is, "\x01é\u20ac\U0010ffff")}, "\x01 -aé\u20ac\U0010ffff"}, {[]api.Cond{cond(is, "\ufeff"), cond(is, "a\ufeff")}, " -ab\ufeff"},
		// The other one of a letter, if one condition has Fold.
		{[]api.Cond{alike(is, "a")}, " -Aab"}, {[]api.Cond{alike(is, "A")}, " -Aab"}, {[]api.Cond{cond(is, "a"), alike(has, "")}, " -Aab"}, {[]api.Cond{alike(is, ""), cond(is, "Zz"), cond(is, "q")}, " -QZaqz"}, {[]api.Cond{alike(is, "[@`{é\u212a")}, " -@[`a{é\u212a"}, {[]api.Cond{alike(is, "mM")}, " -Mam"}, {[]api.Cond{alike(is, "@")}, " -@a"}, {[]api.Cond{alike(is, "[")}, " -[a"}, {[]api.Cond{alike(is, "`")}, " -`a"}, {[]api.Cond{alike(is, "{")}, " -a{"}, {[]api.Cond{alike(is, "aZ")}, " -AZabz"},
		// The first blank that no text has.
		{[]api.Cond{cond(is, " ")}, "\t -a"}, {[]api.Cond{cond(is, "\t")}, "\t -a"}, {[]api.Cond{cond(is, " \t")}, "\t\n -a"}, {[]api.Cond{cond(is, "\t"), cond(is, "\n ")}, "\t\n\f -a"}, {[]api.Cond{cond(is, " \t\n\f")}, "\t\n\f\r -a"}, {[]api.Cond{cond(is, "\r\f\n\t ")}, "\t\n\f\r -a"}, {[]api.Cond{cond(is, " \t\n\r")}, "\t\n\f\r -a"}, {[]api.Cond{cond(is, "\n\f\r\v\u00a0\u0085")}, "\n\v\f\r -a\u0085\u00a0"},
		// One more, which is no great or small one of a letter either.
		{[]api.Cond{cond(is, "A")}, " -Ab"}, {[]api.Cond{cond(is, "AbCd")}, " -ACbde"}, {[]api.Cond{alike(is, "b")}, " -Bab"}, {[]api.Cond{cond(is, "abcdefghijklmnopqrstuvwxy")}, " -abcdefghijklmnopqrstuvwxyz"}, {[]api.Cond{cond(is, "ABCDEFGHIJKLMNOPQRSTUVWXYZ")}, " -0ABCDEFGHIJKLMNOPQRSTUVWXYZ"}, {[]api.Cond{cond(is, "abcdefghijklmnopqrstuvwxyz013")}, " -0123abcdefghijklmnopqrstuvwxyz"}, {[]api.Cond{cond(is, "abcdefghijklmnopqrstuvwxyz012345678")}, " -0123456789abcdefghijklmnopqrstuvwxyz"},
		{[]api.Cond{cond(is, "abcdefghijklmnopqrstuvwxyz0123456789")}, " -0123456789abcdefghijklmnopqrstuvwxyz\u0100"}, {[]api.Cond{cond(is, "abcdefghijklmnopqrstuvwxyz0123456789\u0100\u0102")}, " -0123456789abcdefghijklmnopqrstuvwxyz\u0100\u0101\u0102"}, {[]api.Cond{cond(is, "abcdefghijklmnopqrstuvwxyz0123456789\u0101")}, " -0123456789abcdefghijklmnopqrstuvwxyz\u0100\u0101"},
		// Texts that aren't right: layer 1's characters of them.
		{[]api.Cond{cond(is, "a\xff")}, " -ab\ufffd"}, {[]api.Cond{cond(is, "\x00b")}, "\x00 -ab"}, {[]api.Cond{cond(is, "\xe2\x82"), cond(is, "\ufffd")}, " -a\ufffd"},
	} {
		var want []int
		for _, c := range x.want {
			want = append(want, int(c))
		}
		if got := solve.Letters(x.list); !slices.Equal(got, want) {
			t.Errorf("%v: %x, not %x", x.list, got, want)
		}
	}
}

// P7.1: one more behind what is no character, and none, where texts have all that could be it.
func TestLettersOfAll(t *testing.T) {
	var all strings.Builder
	all.WriteString("abcdefghijklmnopqrstuvwxyz0123456789")
	for c := rune(0x100); c <= 0x10ffff; c++ {
		if c == 0xd800 {
			got := solve.Letters([]api.Cond{cond(is, all.String())})
			if len(got) != 2+36+0xd700+1 || got[len(got)-1] != 0xe000 {
				t.Errorf("%d, %x", len(got), got[len(got)-1])
			}
			c = 0xe000
		}
		if c == 0x10ffff {
			got := solve.Letters([]api.Cond{cond(is, all.String())})
			if len(got) != 2+36+0x10ff00-0x800 || got[len(got)-1] != 0x10ffff {
				t.Errorf("%d, %x", len(got), got[len(got)-1])
			}
		}
		all.WriteRune(c)
	}
	if got := solve.Letters([]api.Cond{cond(part, all.String())}); len(got) != 2+36+0x10ff00-0x800 || got[len(got)-1] != 0x10ffff {
		t.Errorf("%d, %x", len(got), got[len(got)-1])
	}
}

// P7.1: the characters, not the bytes, of each text, 3 more, and the letters; up to 2^62, and above.
func TestBound(t *testing.T) {
	const most = 1 << 62
	for i, x := range []struct {
		list []api.Cond
		want int
	}{
		{nil, 3}, {[]api.Cond{cond(has, "")}, 9}, {[]api.Cond{cond(has, "a")}, 16}, {[]api.Cond{cond(is, "a")}, 16}, {[]api.Cond{alike(is, "a")}, 20}, {[]api.Cond{cond(is, "a"), cond(has, "")}, 48}, {[]api.Cond{cond(is, "ab"), cond(part, "abc")}, 5 * 6 * 6}, {[]api.Cond{cond(is, "é\u20ac\U0001f600")}, 36}, {[]api.Cond{cond(is, "\ufeff")}, 16}, {[]api.Cond{cond(word, "a b")}, 36}, {[]api.Cond{cond(9, "aa")}, 20},
		{[]api.Cond{cond(is, "\xff")}, 16}, {[]api.Cond{cond(is, "\xff\xff\x00")}, 30}, {[]api.Cond{cond(is, "\xe2\x82\xe2\x82")}, 20},
		{many(10, ""), 59049 * 3}, {many(37, ""), 1350851717672992089}, {many(38, ""), 4052555153018976267}, {many(39, ""), most}, {many(40, ""), most}, {many(1000, ""), most}, {many(29, "a"), 1 << 60}, {many(30, "a"), most}, {many(31, "a"), most}, {many(32, "a"), most}, {many(500, "a"), most},
		{append(many(29, "a"), cond(is, "")), 3 << 60}, {append(many(29, "a"), cond(is, "a"), cond(is, "")), most}, {append(many(29, "a"), cond(is, "aa")), most}, {many(20, "bcdefg"), most}, {many(25, "aa"), 1192092895507812500}, {append(many(25, "aa"), cond(is, "")), 3576278686523437500}, {many(26, "aa"), most},
	} {
		if got := solve.Bound(x.list); got != x.want {
			t.Errorf("%d: %d, not %d", i, got, x.want)
		}
	}
	var near []api.Cond // 4 letters, and numbers that make 2^62 less 4
	for _, n := range []int{9, 25, 7, 11, 13, 31, 41, 61, 151, 331, 1321} {
		near = append(near, cond(is, strings.Repeat("a", n-3)))
	}
	if got := solve.Bound(near); got != most-4 {
		t.Error(got)
	}
	if got := solve.Bound(many(1, strings.Repeat("a", math.MaxUint16))); got != 4*(math.MaxUint16+3) {
		t.Error(got)
	}
}
