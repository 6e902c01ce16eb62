package token_test

import (
	"math"
	"slices"
	"strings"
	"testing"

	"wattle/api"
	"wattle/decode"
	"wattle/token"
)

// samples have tokens of all kinds.
func samples() []string {
	return []string{
		"", "a", "/* b", "a{b:c(d) e;f:\"g\\\n\\68 \"}", "@i #j -k --l<!-- --> [m='n'] o,p;", "url( q ) url(r s) 't\n1 2.5 3% 4px .5e-6z",
		"\\", "\"\\", "url(\\", "#\\0 \\d800 \\110000", "-", "+", "1e", "<!-",
	}
}

// P3.3: what is handed in isn't changed, with its spare room, and nothing of it is kept.
func TestMemory(t *testing.T) {
	for _, s := range samples() {
		list := decode.Chars([]byte(s))
		whole := append(slices.Clone(list), '"', 'a', '\\', ')', '*', '/')
		in, before := whole[:len(list)], slices.Clone(whole)
		all, other := token.All(in), token.All(in)
		want := slices.Clone(all)
		next, text := token.Next(in, 0), token.Text(in, 0, len(in))
		if !slices.Equal(whole, before) {
			t.Errorf("%q: the argument was changed", s)
		}
		if !slices.Equal(all, token.All(slices.Clone(list))) || text != s {
			t.Errorf("%q: the spare room was looked at", s)
		}
		all = all[:cap(all)]
		for i := range all {
			all[i] = api.Token{Kind: -1}
		}
		for i := range whole {
			whole[i] = '#'
		}
		if !slices.Equal(other, want) || next != want[0] || text != s {
			t.Errorf("%q: the answer isn't new memory", s)
		}
	}
}

// P3.3: the same of bytes.
func TestMemoryOfRead(t *testing.T) {
	for _, s := range samples() {
		whole := []byte(s + "\"a)")
		in, before := whole[:len(s)], slices.Clone(whole)
		all := token.Read(in)
		want := token.Read([]byte(s))
		if !slices.Equal(whole, before) {
			t.Errorf("%q: the argument was changed", s)
		}
		for i := range whole {
			whole[i] = '#'
		}
		if !slices.Equal(all, want) {
			t.Errorf("%q: the argument is kept, or its spare room was looked at", s)
		}
	}
}

// P1, P2, P3.1: wild lists end, without a panic, twice in the same way; each token begins where the one ahead ends, or behind comments there, and all but the end take something.
func TestWildLists(t *testing.T) {
	wild := []int{math.MinInt, -1, 0, 10, 13, '"', '\\', '-', 'u', 'r', 'l', '(', ')', '/', '*', '1', '.', 'e', ' ', '#', '@', 0xd800, 0x110000, 1<<32 + '"', math.MaxInt}
	for n := range 4096 {
		list := make([]int, n%40)
		for i := range list {
			list[i] = wild[(n*(i+7)*(i+3)>>4+i*n)%len(wild)]
		}
		all := token.All(list)
		if !slices.Equal(all, token.All(slices.Clone(list))) {
			t.Fatalf("%d: two answers", list)
		}
		at := 0
		for i, x := range all {
			end := x.Kind == api.TokEnd
			if end != (i == len(all)-1) || end != (x.From == x.To) || end != (x.From == len(list)) {
				t.Fatalf("%d: %s", list, tell(x))
			}
			between := token.Text(list, at, x.From)
			if x.From < at || x.To > len(list) || between != "" && !strings.HasPrefix(between, "/*") {
				t.Fatalf("%d: %s", list, tell(x))
			}
			if token.Next(list, at) != x || token.Next(list, x.From) != x || strings.Contains(x.Text, "\x00") || !decode.Right([]byte(x.Text)) {
				t.Fatalf("%d: %s", list, tell(x))
			}
			at = x.To
		}
		for _, from := range wild {
			token.Next(list, from)
			for _, to := range wild {
				token.Text(list, from, to)
			}
		}
	}
}

// P1: texts of which each token is long end in time.
func TestLongTexts(t *testing.T) {
	const most = 1 << 18
	for _, s := range []string{"a", "1", "\"", "\\", "\\a", " ", "/*", "/**/", "'\n", "url( ", "url(a b)", "a(", "-", "#", "1e", "<!--", "\\\n"} {
		all := token.Read([]byte(strings.Repeat(s, most/len(s))))
		if last := all[len(all)-1]; last.Kind != api.TokEnd || last.To != most/len(s)*len(s) {
			t.Errorf("%q: %s", s, tell(last))
		}
	}
}
