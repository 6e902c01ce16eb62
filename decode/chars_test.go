package decode_test

import (
	"slices"
	"testing"

	"wattle/decode"
)

// P1.1: the ordinary ones, each length's least and greatest character, and the wrong ones that the document names.
func TestChars(t *testing.T) {
	for _, x := range []struct {
		in   string
		want []int
	}{
		{"", nil},
		{"ab c", []int{'a', 'b', ' ', 'c'}},
		{"\x00\r\n\f", []int{0, 13, 10, 12}},
		{"\x7f\xc2\x80\xdf\xbf", []int{0x7f, 0x80, 0x7ff}},
		{"\xe0\xa0\x80\xef\xbf\xbf", []int{0x800, 0xffff}},
		{"\xed\x9f\xbf\xee\x80\x80", []int{0xd7ff, 0xe000}},
		{"\xf0\x90\x80\x80\xf4\x8f\xbf\xbf", []int{0x10000, 0x10ffff}},
		{"\xef\xbf\xbd", []int{0xfffd}},
		{"\xe2\x82a", []int{0xfffd, 'a'}},
		{"\xed\xa0\x80", []int{0xfffd, 0xfffd, 0xfffd}},
		{"\xe2\x82", []int{0xfffd}},
		{"\xf0\x9f\x98", []int{0xfffd}},
		{"\xf0\x9f\x98\xf0\x9f\x98\x80", []int{0xfffd, 0x1f600}},
		{"\xf0\x9f\xc3\xa9", []int{0xfffd, 0xe9}},
		{"\xf0\x8f\xbf\xbf", []int{0xfffd, 0xfffd, 0xfffd, 0xfffd}},
		{"\xf4\x90\x80\x80", []int{0xfffd, 0xfffd, 0xfffd, 0xfffd}},
		{"\xf5\x80\x80\x80", []int{0xfffd, 0xfffd, 0xfffd, 0xfffd}},
		{"\xe0\x9f\xbf", []int{0xfffd, 0xfffd, 0xfffd}},
		{"\xc1\xbf\xc0\x80", []int{0xfffd, 0xfffd, 0xfffd, 0xfffd}},
		{"\xbf\x80a\xff", []int{0xfffd, 0xfffd, 'a', 0xfffd}},
	} {
		if got := decode.Chars([]byte(x.in)); !slices.Equal(got, x.want) {
			t.Errorf("%q: %x, not %x", x.in, got, x.want)
		}
	}
}

// P1.1: just a mark that is the first character of all is left out.
func TestCharsMark(t *testing.T) {
	for _, x := range []struct {
		in   string
		want []int
	}{
		{"\ufeff", nil},
		{"\ufeffa", []int{'a'}},
		{"\ufeff\ufeff", []int{0xfeff}},
		{"a\ufeff", []int{'a', 0xfeff}},
		{"\xff\ufeff", []int{0xfffd, 0xfeff}},
		{"\xef\xbb", []int{0xfffd}},
		{"\xfe\xff", []int{0xfffd, 0xfffd}},
	} {
		if got := decode.Chars([]byte(x.in)); !slices.Equal(got, x.want) {
			t.Errorf("%q: %x, not %x", x.in, got, x.want)
		}
	}
}

// bytesOf gives a character's bytes by the document's words.
func bytesOf(c int) string {
	switch {
	case c < 0x80:
		return string([]byte{byte(c)})
	case c < 0x800:
		return string([]byte{byte(0xc0 + c/64), byte(0x80 + c%64)})
	case c < 0x10000:
		return string([]byte{byte(0xe0 + c/4096), byte(0x80 + c/64%64), byte(0x80 + c%64)})
	}
	return string([]byte{byte(0xf0 + c/262144), byte(0x80 + c/4096%64), byte(0x80 + c/64%64), byte(0x80 + c%64)})
}

// everyCharacter goes through all characters.
func everyCharacter(yield func(int) bool) {
	for c := range 0x110000 {
		if (c < 0xd800 || c > 0xdfff) && !yield(c) {
			return
		}
	}
}

// words reads characters by the document's words, from tables of all characters' bytes and of their beginnings.
type words struct {
	whole      map[string]int
	beginnings map[string]bool
}

func newWords() words {
	w := words{map[string]int{}, map[string]bool{}}
	for c := range everyCharacter {
		s := bytesOf(c)
		w.whole[s] = c
		for n := 1; n < len(s); n++ {
			w.beginnings[s[:n]] = true
		}
	}
	return w
}

func (w words) one(s string) (c, size int) {
	for n := 1; n <= 4 && n <= len(s); n++ {
		if c, ok := w.whole[s[:n]]; ok {
			return c, n
		}
	}
	for n := min(3, len(s)); n > 0; n-- {
		if w.beginnings[s[:n]] {
			return 0xfffd, n
		}
	}
	return 0xfffd, 1
}

func (w words) chars(s string) []int {
	var out []int
	for len(s) > 0 {
		c, size := w.one(s)
		out, s = append(out, c), s[size:]
	}
	if len(out) > 0 && out[0] == 0xfeff {
		return out[1:]
	}
	return out
}

// P1.1, P1.3: all rows of up to four bytes out of those at which something changes.
func TestCharsByTheWords(t *testing.T) {
	w := newWords()
	edges := []byte{0, 'a', 0x7f, 0x80, 0x8f, 0x90, 0x9f, 0xa0, 0xbb, 0xbf, 0xc0, 0xc1, 0xc2, 0xdf, 0xe0, 0xe1, 0xec, 0xed, 0xee, 0xef, 0xf0, 0xf1, 0xf3, 0xf4, 0xf5, 0xff}
	var try func(row []byte)
	try = func(row []byte) {
		want := w.chars(string(row))
		if got := decode.Chars(row); !slices.Equal(got, want) {
			t.Fatalf("%q: %x, not %x", row, got, want)
		}
		if got := decode.Right(row); got != w.right(string(row)) {
			t.Fatalf("%q: right is %t", row, got)
		}
		if len(row) == 4 {
			return
		}
		for _, b := range edges {
			try(append(row, b))
		}
	}
	try(nil)
}

// right tells by the words whether s is characters' bytes, none of them 0.
func (w words) right(s string) bool {
	for len(s) > 0 {
		c, size := w.one(s)
		if c == 0 || w.whole[s[:size]] != c {
			return false
		}
		s = s[size:]
	}
	return true
}

// P1.1, P1.3: all characters there are, to bytes and back.
func TestEveryCharacter(t *testing.T) {
	for c := range everyCharacter {
		b := decode.Text([]int{c})
		if string(b) != bytesOf(c) {
			t.Fatalf("%x: %x", c, b)
		}
		if got := decode.Chars(append([]byte("a"), b...)); !slices.Equal(got, []int{'a', c}) {
			t.Fatalf("%x: %x", c, got)
		}
		if decode.Right(b) != (c != 0) {
			t.Fatalf("%x: right is %t", c, c == 0)
		}
	}
}
