package decode_test

import (
	"math"
	"slices"
	"testing"

	"wattle/decode"
)

// P1.2: line ends, noughts, and what is no character.
func TestPrepare(t *testing.T) {
	for _, x := range []struct{ in, want []int }{
		{nil, nil},
		{[]int{'a', 10, 0x20ac, 0xfeff}, []int{'a', 10, 0x20ac, 0xfeff}},
		{[]int{13, 10}, []int{10}},
		{[]int{'a', 13, 10, 'b'}, []int{'a', 10, 'b'}},
		{[]int{13}, []int{10}},
		{[]int{13, 13, 10, 10}, []int{10, 10, 10}},
		{[]int{10, 13}, []int{10, 10}},
		{[]int{13, 12}, []int{10, 10}},
		{[]int{12, 10}, []int{10, 10}},
		{[]int{13, 'a', 13}, []int{10, 'a', 10}},
		{[]int{0, 'a', 0}, []int{0xfffd, 'a', 0xfffd}},
		{[]int{11, 14, 127, 0x85}, []int{11, 14, 127, 0x85}},
		{[]int{0xd7ff, 0xd800, 0xdfff, 0xe000}, []int{0xd7ff, 0xfffd, 0xfffd, 0xe000}},
		{[]int{0x10ffff, 0x110000, -1, 1<<32 + 'a', 1<<32 + 10}, []int{0x10ffff, 0xfffd, 0xfffd, 0xfffd, 0xfffd}},
		{[]int{math.MaxInt, math.MinInt}, []int{0xfffd, 0xfffd}},
	} {
		if got := decode.Prepare(x.in); !slices.Equal(got, x.want) {
			t.Errorf("%x: %x, not %x", x.in, got, x.want)
		}
	}
}

// P1.3: Text, also of what is no character.
func TestText(t *testing.T) {
	for _, x := range []struct {
		in   []int
		want string
	}{
		{nil, ""},
		{[]int{'a', 0, 0xe9, 0x20ac, 0x1f600}, "a\x00é€😀"},
		{[]int{0xfeff, 'a'}, "\ufeffa"},
		{[]int{13, 10, 12}, "\r\n\f"},
		{[]int{-1, 0xd800, 0xdfff, 0x110000}, "\ufffd\ufffd\ufffd\ufffd"},
		{[]int{1<<32 + 'a', math.MaxInt, math.MinInt, 'b'}, "\ufffd\ufffd\ufffdb"},
	} {
		if got := string(decode.Text(x.in)); got != x.want {
			t.Errorf("%x: %q, not %q", x.in, got, x.want)
		}
	}
}

// P1.3: Right of right bytes, of noughts, and of wrong ones.
func TestRight(t *testing.T) {
	for s, want := range map[string]bool{
		"": true, "a": true, "aé€😀": true, "\ufeffa": true, "\ufffd": true, "\x01\r\n\x7f": true,
		"\x00": false, "a\x00b": false, "a\x00": false,
		"\xff": false, "a\x80": false, "\xe2\x82": false, "\xe2\x82a": false, "\xed\xa0\x80": false,
		"\xc0\x80": false, "\xf4\x90\x80\x80": false, "é\xc3": false,
	} {
		if got := decode.Right([]byte(s)); got != want {
			t.Errorf("%q: %t", s, got)
		}
	}
}

// P1.3: Lines at places within, at the ends of lines, and out of bounds.
func TestLines(t *testing.T) {
	list := []int{'a', 10, 10, 'b', 'c', 13, 10}
	for _, x := range []struct{ at, line, place int }{
		{math.MinInt, 0, 0}, {-1, 0, 0}, {0, 0, 0}, {1, 0, 1}, {2, 1, 0}, {3, 2, 0}, {4, 2, 1}, {5, 2, 2}, {6, 2, 3},
		{7, 3, 0}, {8, 3, 0}, {math.MaxInt, 3, 0},
	} {
		if line, place := decode.Lines(list, x.at); line != x.line || place != x.place {
			t.Errorf("%d: %d, %d", x.at, line, place)
		}
	}
	if line, place := decode.Lines(nil, 5); line != 0 || place != 0 {
		t.Errorf("%d, %d", line, place)
	}
	if line, place := decode.Lines([]int{-1, 0, 1<<32 + 10, 'a'}, 9); line != 0 || place != 4 {
		t.Errorf("%d, %d", line, place)
	}
}
