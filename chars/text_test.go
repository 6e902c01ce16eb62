package chars_test

import (
	"slices"
	"strings"
	"testing"
	"unsafe"

	"wattle/chars"
)

// P2.2: names as they are written.
func TestIdent(t *testing.T) {
	for s, want := range map[string]string{
		"":    "",
		"a":   "a",
		"aZ9": "aZ9", "_": "_", "--": "--", "-a": "-a", "a-": "a-", "---": "---", "-_": "-_",
		"1a-": `\31 a-`, "0": `\30 `, "9": `\39 `, "12": `\31 2`, "a1": "a1", "_1": "_1",
		"-": `\-`, "-1": `-\31 `, "-12": `-\31 2`, "--1": "--1", "-a1": "-a1", "a-1": "a-1",
		"\x00": "\ufffd", "a\x00b": "a\ufffdb", "-\x00": "-\ufffd",
		"\x01": `\1 `, "\x1f": `\1f `, "\x7f": `\7f `, "a\nb\t": `a\a b\9 `, "\x0f1": `\f 1`,
		" ": `\ `, "a b": `a\ b`, "!~": `\!\~`, "\\": `\\`, `a"b'`: `a\"b\'`, "a.b#c": `a\.b\#c`, "@/:[`{^": "\\@\\/\\:\\[\\`\\{\\^",
		"é€😀": "é€😀", "\u0080\u009f": "\u0080\u009f", "\U0010ffff\ufffd": "\U0010ffff\ufffd",
		"\ufeff": `\feff `, "\ufeff\ufeff": `\feff \feff `, "a\ufeffb": `a\feff b`, "\ufeff1": `\feff 1`, "\ufefe\uff00": "\ufefe\uff00",
		"\xff": "\ufffd", "\xe2\x82a": "\ufffda", "-\xc3": "-\ufffd", "\xed\xa0\x80": "\ufffd\ufffd\ufffd", "1\xff": `\31 ` + "\ufffd",
	} {
		if got := chars.Ident(s); got != want {
			t.Errorf("%q: %q, not %q", s, got, want)
		}
	}
}

// P2.3: texts between marks.
func TestQuote(t *testing.T) {
	for s, want := range map[string]string{
		"":    `""`,
		"a b": `"a b"`, `a"b`: `"a\"b"`, `\`: `"\\"`, `\"`: `"\\\""`, "'": `"'"`, "1-": `"1-"`,
		"\x00": "\"\ufffd\"", "\x01": `"\1 "`, "\x1f": `"\1f "`, "\x7f": `"\7f "`, "a\nb": `"a\a b"`, "\r\f\t": `"\d \c \9 "`,
		"\u0080é😀": "\"\u0080é😀\"", "\ufeff": "\"\ufeff\"", "\ufeff\ufeffa": "\"\ufeff\ufeffa\"",
		"\xff": "\"\ufffd\"", "\xe2\x82\"": "\"\ufffd\\\"\"",
	} {
		if got := chars.Quote(s); got != want {
			t.Errorf("%q: %q, not %q", s, got, want)
		}
	}
}

// P2.4: the parts between blanks; other blanks than those told, and wrong bytes, are of them.
func TestNames(t *testing.T) {
	for _, x := range []struct {
		in   string
		want []string
	}{
		{"", nil}, {" ", nil}, {" \t\n\r\f", nil},
		{"a", []string{"a"}}, {" a ", []string{"a"}},
		{"a b", []string{"a", "b"}}, {"a  b", []string{"a", "b"}}, {"b a b", []string{"b", "a", "b"}},
		{"a\tb\nc\rd\fe", []string{"a", "b", "c", "d", "e"}}, {"\r\na\r\n", []string{"a"}},
		{"a\vb\x00\x1f", []string{"a\vb\x00\x1f"}}, {"a\u00a0b\u2003c\u0085", []string{"a\u00a0b\u2003c\u0085"}},
		{"\ufeff a\xff \xe2\x82 \x85", []string{"\ufeff", "a\xff", "\xe2\x82", "\x85"}},
	} {
		if got := chars.Names(x.in); !slices.Equal(got, x.want) {
			t.Errorf("%q: %q, not %q", x.in, got, x.want)
		}
	}
}

// P2.5: answers stay as they are when the bytes of what was handed in are written over.
func TestMemory(t *testing.T) {
	for _, s := range []string{"abc", "a bc d", "Ab", "-é"} {
		in := []byte(s)
		text := unsafe.String(&in[0], len(in))
		lower, ident, quote, names := chars.Lower(text), chars.Ident(text), chars.Quote(text), chars.Names(text)
		other := chars.Names(text)
		for i := range in {
			in[i] = '#'
		}
		if lower != chars.Lower(s) || ident != chars.Ident(s) || quote != chars.Quote(s) || !slices.Equal(names, chars.Names(s)) {
			t.Errorf("%q: what was handed in is kept", s)
		}
		names = names[:cap(names)]
		for i := range names {
			names[i] = "#"
		}
		if !slices.Equal(other, chars.Names(s)) {
			t.Errorf("%q: two answers share memory", s)
		}
	}
}

// P1, P2: wild texts end, without a panic, twice in the same way.
func TestWildTexts(t *testing.T) {
	bytes := make([]byte, 2048)
	for i := range bytes {
		bytes[i] = byte(i * i >> 3)
	}
	for n := range bytes {
		a, b := string(bytes[n:]), string(bytes[:n])
		if chars.Ident(a) != chars.Ident(strings.Clone(a)) || chars.Quote(a) != chars.Quote(strings.Clone(a)) || chars.Lower(a) != chars.Lower(strings.Clone(a)) || !slices.Equal(chars.Names(a), chars.Names(strings.Clone(a))) {
			t.Errorf("%d: two answers", n)
		}
		if !chars.Same(a, chars.Lower(a)) || chars.Same(a, b) != (chars.Lower(a) == chars.Lower(b)) {
			t.Errorf("%d: Same", n)
		}
	}
}
