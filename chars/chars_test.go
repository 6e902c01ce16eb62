package chars_test

import (
	"math"
	"strings"
	"testing"

	"wattle/chars"
)

const (
	small  = "abcdefghijklmnopqrstuvwxyz"
	great  = "ABCDEFGHIJKLMNOPQRSTUVWXYZ"
	digits = "0123456789"
)

// among tells whether a number is a character of an ASCII text.
func among(c int, s string) bool { return c >= 0 && c < 0x80 && strings.IndexByte(s, byte(c)) >= 0 }

// numbers are those at which something changes, and their neighbours.
func numbers() []int {
	out := []int{math.MinInt, math.MinInt + 1, -1 << 32, -256, math.MaxInt, 1<<32 + 'a', 1<<32 + ' ', 256 + '0', 0xd800, 0xfeff, 0xfffd, 0x10ffff, 0x110000}
	for c := -130; c < 400; c++ {
		out = append(out, c)
	}
	return out
}

// P2.1: the kinds of characters, of any numbers.
func TestKinds(t *testing.T) {
	for _, c := range numbers() {
		if got := chars.Space(c); got != among(c, " \t\n") {
			t.Errorf("Space of %d: %t", c, got)
		}
		if got := chars.Digit(c); got != among(c, digits) {
			t.Errorf("Digit of %d: %t", c, got)
		}
		if got := chars.Start(c); got != (among(c, small+great+"_") || c >= 0x80) {
			t.Errorf("Start of %d: %t", c, got)
		}
		if got := chars.Name(c); got != (among(c, small+great+digits+"_-") || c >= 0x80) {
			t.Errorf("Name of %d: %t", c, got)
		}
	}
}

// P2.1: digits of base 16, and small letters.
func TestHexAndSmall(t *testing.T) {
	for _, c := range numbers() {
		value, ok := 0, false
		if among(c, digits+"abcdef") {
			value, ok = strings.IndexByte(digits+"abcdef", byte(c)), true
		} else if among(c, "ABCDEF") {
			value, ok = strings.IndexByte(digits+"ABCDEF", byte(c)), true
		}
		if n, is := chars.Hex(c); n != value || is != ok {
			t.Errorf("Hex of %d: %d, %t", c, n, is)
		}
		want := c
		if among(c, great) {
			want = int(small[strings.IndexByte(great, byte(c))])
		}
		if got := chars.Small(c); got != want {
			t.Errorf("Small of %d: %d", c, got)
		}
	}
}

// P2.1: texts with small letters; bytes that are no letters of ASCII stay, right or wrong.
func TestLower(t *testing.T) {
	for s, want := range map[string]string{
		"": "", great: small, small: small, "@[`{019-_": "@[`{019-_", "ÉÀ\u212a": "ÉÀ\u212a",
		"A\xff\xc3B\x00\x80": "a\xff\xc3b\x00\x80", "\ufeffA": "\ufeffa", "\xc1\xda": "\xc1\xda",
	} {
		if got := chars.Lower(s); got != want {
			t.Errorf("%q: %q", s, got)
		}
	}
}

// P2.1: texts that are one, but for great and small letters of ASCII.
func TestSame(t *testing.T) {
	for _, x := range []struct {
		a, b string
		want bool
	}{
		{"", "", true}, {"a", "a", true}, {"aBz", "AbZ", true}, {great, small, true}, {"\xffA", "\xffa", true},
		{"", "a", false}, {"a", "", false}, {"a", "ab", false}, {"ab", "a", false}, {"a", "b", false},
		{"@", "`", false}, {"[", "{", false}, {"é", "É", false}, {"k", "\u212a", false}, {"\xc1", "\xe1", false}, {"a\x00", "a", false},
	} {
		if got := chars.Same(x.a, x.b); got != x.want || got != (chars.Lower(x.a) == chars.Lower(x.b)) {
			t.Errorf("%q, %q: %t", x.a, x.b, got)
		}
	}
}
