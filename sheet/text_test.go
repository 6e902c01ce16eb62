package sheet_test

import (
	"math"
	"regexp"
	"slices"
	"strings"
	"testing"

	"wattle/api"
	"wattle/chars"
	"wattle/sheet"
)

// textByWords gives a part as a text, by the chapter's words; the part is told with no blanks around it.
func textByWords(part []api.Token) string {
	plain := map[int]string{
		api.TokBadString: "\"\n", api.TokBadURL: "url(()", api.TokCDO: "<!--", api.TokCDC: "-->", api.TokColon: ":", api.TokSemicolon: ";", api.TokComma: ",",
		api.TokOpenSquare: "[", api.TokCloseSquare: "]", api.TokOpen: "(", api.TokClose: ")", api.TokOpenCurly: "{", api.TokCloseCurly: "}",
	}
	out := ""
	for i, t := range part {
		if i > 0 && part[i-1].Kind != api.TokSpace && t.Kind != api.TokSpace && part[i-1].Kind != api.TokFunction {
			out += "/**/"
		}
		name := chars.Ident(t.Text)
		sign, ok := plain[t.Kind]
		switch {
		case ok:
			out += sign
		case t.Kind == api.TokSpace:
			if part[i-1].Kind != api.TokSpace {
				out += " "
			}
		case t.Kind == api.TokDelim:
			out += t.Text
			if t.Text == `\` {
				out += "\n"
			}
		case t.Kind == api.TokString:
			out += chars.Quote(t.Text)
		case t.Kind == api.TokNumber:
			out += t.Number
		case t.Kind == api.TokPercent:
			out += t.Number + "%"
		case t.Kind == api.TokDimension:
			out += t.Number + name
		case t.Kind == api.TokIdent:
			out += name
		case t.Kind == api.TokFunction:
			out += name + "("
		case t.Kind == api.TokAt:
			out += "@" + name
		case t.Kind == api.TokHash:
			out += "#" + name
		case t.Kind == api.TokURL:
			out += "url(" + name + ")"
		default:
			out += "?"
		}
	}
	return out
}

// cut gives a part without the blanks around it.
func cut(list []api.Token, from, to int) []api.Token {
	if from < 0 {
		from = 0
	}
	if to > len(list) {
		to = len(list)
	}
	var out []api.Token
	for at := from; at < to && list[at].Kind != api.TokEnd; at++ {
		if len(out) > 0 || list[at].Kind != api.TokSpace {
			out = append(out, list[at])
		}
	}
	for len(out) > 0 && out[len(out)-1].Kind == api.TokSpace {
		out = out[:len(out)-1]
	}
	return out
}

// P20.2: each kind of token, and what stands between two.
func TestText(t *testing.T) {
	for in, want := range map[string]string{
		"": "", " ": "", " /**/ \n": "",
		"a": "a", `\31 b\.c`: `\31 b\.c`, "É": "É", `\-`: `\-`, "--": "--",
		"a(": "a(", `\31 (`: `\31 (`, "@a": "@a", `@\31 `: `@\31 `, "#a": "#a", "#1": `#\31 `, "#-": `#\-`,
		`'a"b\'c\\'`: `"a\"b'c\\"`, `"\a "`: `"\a "`, "'": `""`, "'a": `"a"`,
		"url(a)": "url(a)", "URL( a/b.c )": `url(a\/b\.c)`, "url(": "url()", "url(1)": `url(\31 )`, "url('a')": `url("a"/**/)`,
		"1": "1", "+1.50e+3": "+1.50e+3", "-.5": "-.5", "1%": "1%", "+.5%": "+.5%", "1px": "1px", "01E3PX": "01E3PX", `1\65 3`: "1e3", `1\31 `: `1\31 `, "1-": "1/**/-", `1\-`: `1\-`,
		"!": "!", "*": "*", "/": "/", "\\\n": "\\\n", "\\\na": "\\\n a", "\\": "\ufffd",
		"'\n": "\"\n", "'\n'": "\"\n \"\"", "url(a b)": "url(()", "url('": `url(""`, "url(()a": "url(()/**/a",
		"<!--": "<!--", "-->": "-->", ":": ":", ";": ";", ",": ",", "[": "[", "]": "]", "(": "(", ")": ")", "{": "{", "}": "}",

		"ab": "ab", "a b": "a b", " a b ": "a b", "a  \n\tb": "a b", "a /**/ b": "a b", "a/**/ /**/b": "a b", "a/**/b": "a/**/b",
		"a(b": "a(b", "a( b": "a( b", "a( /**/ b": "a( b", "a(/**/b": "a(b", "a()": "a()", "a((": "a((", "(a": "(/**/a", "( a": "( a", "a(b(c(": "a(b(c(", "a(b)c": "a(b/**/)/**/c",
		"()[]{}": "(/**/)/**/[/**/]/**/{/**/}", "a:b;c,d": "a/**/:/**/b/**/;/**/c/**/,/**/d", "a : b": "a : b", "1/2": "1/**///**/2", "1 / 2": "1 / 2",
		"#a#b": "#a/**/#b", "@a@b": "@a/**/@b", "'a''b'": `"a"/**/"b"`, "1 2": "1 2", "1/**/2": "1/**/2", "1+2": "1/**/+2", "*/": "*/**//", "//*": "/", "/ /**/*": "/ *",
		"<!---->": "<!--/**/-->", "a!important": "a/**/!/**/important", "?": "?",
	} {
		list := read(in)
		if got := sheet.Text(list, 0, len(list)); got != want {
			t.Errorf("%q: %q, not %q", in, got, want)
		}
	}
}

// P20.2: what is told of tokens that layer 3 doesn't give: another Kind, and a Text that its Kind doesn't have.
func TestTextOfOtherTokens(t *testing.T) {
	for want, list := range map[string][]api.Token{
		"?":                             {{Kind: 99, Text: "a", Number: "1"}},
		"?/**/?/**/a":                   {{Kind: -1}, {Kind: math.MaxInt}, {Kind: api.TokIdent, Text: "a"}},
		"? ?":                           {{Kind: math.MinInt}, {Kind: api.TokSpace, Text: "a"}, {Kind: 25}},
		"{/**/}":                        {{Kind: api.TokOpenCurly, Text: "a"}, {Kind: api.TokCloseCurly, Number: "1"}},
		"\\\n/**/a/**/\\\\/**//**/\xff": {{Kind: api.TokDelim, Text: `\`}, {Kind: api.TokDelim, Text: "a"}, {Kind: api.TokDelim, Text: `\\`}, {Kind: api.TokDelim}, {Kind: api.TokDelim, Text: "\xff"}},
		"x/**/x%/**/xy":                 {{Kind: api.TokNumber, Number: "x", Text: "z"}, {Kind: api.TokPercent, Number: "x", Text: "z"}, {Kind: api.TokDimension, Number: "x", Text: "y"}},
		"/**/(@/**/#/**/url()/**/1":     {{Kind: api.TokIdent}, {Kind: api.TokFunction}, {Kind: api.TokAt}, {Kind: api.TokHash}, {Kind: api.TokURL}, {Kind: api.TokDimension, Number: "1"}},
		"\ufffd/**/\"\ufffd\"/**/\"\n":  {{Kind: api.TokIdent, Text: "\xff", Number: "1"}, {Kind: api.TokString, Text: "\x00"}, {Kind: api.TokBadString, Text: "a"}},
	} {
		if got := sheet.Text(list, 0, len(list)); got != want {
			t.Errorf("%v: %q, not %q", list, got, want)
		}
	}
}

// P20.2: parts of a list, up to a TokEnd.
func TestTextOfParts(t *testing.T) {
	list := append(read(" a b("), read("c ")...)
	for _, x := range []struct {
		from, to int
		want     string
	}{
		{0, 99, "a b("}, {math.MinInt, math.MaxInt, "a b("}, {-1, 4, "a b("}, {0, 3, "a"}, {0, 2, "a"}, {1, 2, "a"}, {0, 1, ""}, {2, 4, "b("}, {2, 3, ""}, {3, 4, "b("},
		{4, 99, ""}, {5, 99, "c"}, {6, 99, ""}, {7, 99, ""}, {8, 8, ""}, {99, 100, ""}, {3, 1, ""}, {3, -1, ""}, {-5, -1, ""}, {math.MaxInt, math.MinInt, ""}, {math.MaxInt, math.MaxInt, ""},
	} {
		if got := sheet.Text(list, x.from, x.to); got != x.want {
			t.Errorf("%d, %d: %q", x.from, x.to, got)
		}
	}
	if got := sheet.Text(nil, 0, 1); got != "" {
		t.Errorf("%q", got)
	}
}

// pieces are parts of texts that make all kinds of tokens, and some that run into one another.
func pieces() []string {
	return []string{" ", "\n", "a", "e", "É", "\\", `\31 `, `\65 `, "-", "+", ".", "1", "%", "#", "@", "\"", "'", "(", ")", "url(", "[", "{", ":", ";", ",", "/", "*", "/**/", "<!--", "-->", "!", "\ufeff", "\x01", "|"}
}

// isExponent tells whether a token is a dimension whose unit, as it is written, is read as an exponent: its text by the chapter's words, 1e1- of 1e\31 - say, need not have itself again.
func isExponent(t api.Token) bool {
	return t.Kind == api.TokDimension && exponent.MatchString(t.Text)
}

var exponent = regexp.MustCompile("^[eE]-?[0-9]")

// checkText holds a text's tokens, as a text, against the chapter's words; and against the text of that text's tokens.
func checkText(t *testing.T, s string) {
	list := read(s)
	part := cut(list, 0, len(list))
	got, want := sheet.Text(list, 0, len(list)), textByWords(part)
	if got != want {
		t.Errorf("%q: %q, not %q", s, got, want)
	}
	if len(part) > 0 && part[len(part)-1].Kind == api.TokFunction || slices.ContainsFunc(part, isExponent) {
		return
	}
	again := read(got)
	if back := sheet.Text(again, 0, len(again)); back != got {
		t.Errorf("%q: of %q comes %q", s, got, back)
	}
}

// P20.2: all short texts: the tokens of a text that is told have that text.
func TestTextOfShortTexts(t *testing.T) {
	shorter := []string{""}
	for range 3 {
		var longer []string
		for _, s := range shorter {
			for _, piece := range pieces() {
				longer = append(longer, s+piece)
			}
		}
		for _, s := range longer {
			checkText(t, s)
		}
		if t.Failed() {
			return
		}
		shorter = longer
	}
}

// P20.2: longer texts, and parts of their tokens.
func TestTextOfLongTexts(t *testing.T) {
	pick := picker(1)
	all := pieces()
	for range 60000 {
		var s strings.Builder
		for range pick(16) {
			s.WriteString(all[pick(len(all))])
		}
		checkText(t, s.String())
		list := read(s.String())
		from, to := pick(len(list)+3)-2, pick(len(list)+3)-1
		if got, want := sheet.Text(list, from, to), textByWords(cut(list, from, to)); got != want {
			t.Errorf("%q, %d to %d: %q, not %q", s.String(), from, to, got, want)
		}
		if t.Failed() {
			return
		}
	}
}
