package token_test

import (
	"math"
	"strconv"
	"strings"
	"testing"

	"wattle/api"
	"wattle/decode"
	"wattle/token"
)

var kinds = [...]string{
	api.TokEnd: "end", api.TokIdent: "ident", api.TokFunction: "function", api.TokAt: "at", api.TokHash: "hash",
	api.TokString: "string", api.TokBadString: "badstring", api.TokURL: "url", api.TokBadURL: "badurl",
	api.TokDelim: "delim", api.TokNumber: "number", api.TokPercent: "percent", api.TokDimension: "dimension",
	api.TokSpace: "space", api.TokCDO: "cdo", api.TokCDC: "cdc", api.TokColon: "colon", api.TokSemicolon: "semicolon",
	api.TokComma: "comma", api.TokOpenSquare: "[", api.TokCloseSquare: "]", api.TokOpen: "(", api.TokClose: ")",
	api.TokOpenCurly: "{", api.TokCloseCurly: "}",
}

// tell gives a token with all that it says: its kind, its places, its number, a ! if it is Whole, and its text.
func tell(t api.Token) string {
	s := kinds[t.Kind] + " " + strconv.Itoa(t.From) + "-" + strconv.Itoa(t.To)
	if t.Number != "" {
		s += " " + t.Number
	}
	if t.Whole {
		s += " !"
	}
	if t.Text != "" {
		s += " " + t.Text
	}
	return s
}

func tellAll(list []api.Token) string {
	parts := make([]string, len(list))
	for i, t := range list {
		parts[i] = tell(t)
	}
	return strings.Join(parts, "; ")
}

// check holds the tokens of texts, whose characters aren't prepared, against what is wanted.
func check(t *testing.T, cases map[string]string) {
	t.Helper()
	for s, want := range cases {
		if got := tellAll(token.All(decode.Chars([]byte(s)))); got != want {
			t.Errorf("%q:\n%s, not\n%s", s, got, want)
		}
	}
}

// checkFirst holds the first token of texts against what is wanted.
func checkFirst(t *testing.T, cases map[string]string) {
	t.Helper()
	for s, want := range cases {
		if got := tell(token.Next(decode.Chars([]byte(s)), 0)); got != want {
			t.Errorf("%q: %s, not %s", s, got, want)
		}
	}
}

// P3.1: blanks, comments, the end, and tokens of one character.
func TestSmallTokens(t *testing.T) {
	check(t, map[string]string{
		"":      "end 0-0",
		" \t\n": "space 0-3; end 3-3",
		"a b":   "ident 0-1 a; space 1-2; ident 2-3 b; end 3-3",

		"\r\f\v": "delim 0-1 \r; delim 1-2 \f; delim 2-3 \v; end 3-3",
		"()[]{}": "( 0-1; ) 1-2; [ 2-3; ] 3-4; { 4-5; } 5-6; end 6-6",
		",:;":    "comma 0-1; colon 1-2; semicolon 2-3; end 3-3",
		"*>~|!":  "delim 0-1 *; delim 1-2 >; delim 2-3 ~; delim 3-4 |; delim 4-5 !; end 5-5",
		"\x01%&": "delim 0-1 \x01; delim 1-2 %; delim 2-3 &; end 3-3",

		"/**/a":      "ident 4-5 a; end 5-5",
		"/*/a":       "end 4-4",
		"/*/*/a":     "ident 5-6 a; end 6-6",
		"/*a*//*b*/": "end 10-10",
		"/**/ /**/a": "space 4-5; ident 9-10 a; end 10-10",
		"/* ":        "end 3-3",
		"/***/a":     "ident 5-6 a; end 6-6",
		"/*\"*/a":    "ident 5-6 a; end 6-6",
		"a/**/b":     "ident 0-1 a; ident 5-6 b; end 6-6",
		"/":          "delim 0-1 /; end 1-1",
		"/a*":        "delim 0-1 /; ident 1-2 a; delim 2-3 *; end 3-3",
		"*/":         "delim 0-1 *; delim 1-2 /; end 2-2",
		"a /*":       "ident 0-1 a; space 1-2; end 4-4",
	})
}

// P3.1: the signs around style sheets.
func TestSheetSigns(t *testing.T) {
	check(t, map[string]string{
		"<!--":    "cdo 0-4; end 4-4",
		"<!--a":   "cdo 0-4; ident 4-5 a; end 5-5",
		"<!-":     "delim 0-1 <; delim 1-2 !; delim 2-3 -; end 3-3",
		"<!":      "delim 0-1 <; delim 1-2 !; end 2-2",
		"<!a--":   "delim 0-1 <; delim 1-2 !; ident 2-5 a--; end 5-5",
		"<a":      "delim 0-1 <; ident 1-2 a; end 2-2",
		"-->":     "cdc 0-3; end 3-3",
		"-->a":    "cdc 0-3; ident 3-4 a; end 4-4",
		"--":      "ident 0-2 --; end 2-2",
		"->":      "delim 0-1 -; delim 1-2 >; end 2-2",
		"--->":    "ident 0-3 ---; delim 3-4 >; end 4-4",
		"a-->":    "ident 0-3 a--; delim 3-4 >; end 4-4",
		"1-->":    "dimension 0-3 1 ! --; delim 3-4 >; end 4-4",
		"<!---->": "cdo 0-4; cdc 4-7; end 7-7",
	})
}

// P3.1: names, hashes, and names of at-rules.
func TestNames(t *testing.T) {
	check(t, map[string]string{
		"aZ_9-":    "ident 0-5 aZ_9-; end 5-5",
		"_":        "ident 0-1 _; end 1-1",
		"é😀\u0080": "ident 0-3 é😀\u0080; end 3-3",
		"-a":       "ident 0-2 -a; end 2-2",
		"-_":       "ident 0-2 -_; end 2-2",
		"-é":       "ident 0-2 -é; end 2-2",
		"--":       "ident 0-2 --; end 2-2",
		"--1":      "ident 0-3 --1; end 3-3",
		"--(":      "function 0-3 --; end 3-3",
		"-":        "delim 0-1 -; end 1-1",
		"- a":      "delim 0-1 -; space 1-2; ident 2-3 a; end 3-3",
		"-(":       "delim 0-1 -; ( 1-2; end 2-2",
		`-\a`:      "ident 0-3 -\n; end 3-3",
		"-\\\n":    "delim 0-1 -; delim 1-2 \\; space 2-3; end 3-3",
		"+a":       "delim 0-1 +; ident 1-2 a; end 2-2",
		".a":       "delim 0-1 .; ident 1-2 a; end 2-2",
		"a.b":      "ident 0-1 a; delim 1-2 .; ident 2-3 b; end 3-3",
		"a(":       "function 0-2 a; end 2-2",
		"a (":      "ident 0-1 a; space 1-2; ( 2-3; end 3-3",
		"a/**/(":   "ident 0-1 a; ( 5-6; end 6-6",
		"A(b)":     "function 0-2 A; ident 2-3 b; ) 3-4; end 4-4",
		"\x7f":     "delim 0-1 \x7f; end 1-1",
	})
	check(t, map[string]string{
		"#a":     "hash 0-2 ! a; end 2-2",
		"#1":     "hash 0-2 1; end 2-2",
		"#1a(":   "hash 0-3 1a; ( 3-4; end 4-4",
		"#-":     "hash 0-2 -; end 2-2",
		"#-1":    "hash 0-3 -1; end 3-3",
		"#--":    "hash 0-3 ! --; end 3-3",
		"#-a":    "hash 0-3 ! -a; end 3-3",
		"#é":     "hash 0-2 ! é; end 2-2",
		`#\31 a`: "hash 0-6 ! 1a; end 6-6",
		`#-\31 `: "hash 0-6 ! -1; end 6-6",
		`#\`:     "hash 0-2 ! \ufffd; end 2-2",
		"#\\\n":  "delim 0-1 #; delim 1-2 \\; space 2-3; end 3-3",
		"#":      "delim 0-1 #; end 1-1",
		"# a":    "delim 0-1 #; space 1-2; ident 2-3 a; end 3-3",
		"##a":    "delim 0-1 #; hash 1-3 ! a; end 3-3",
		"@a":     "at 0-2 a; end 2-2",
		"@-a(":   "at 0-3 -a; ( 3-4; end 4-4",
		"@--":    "at 0-3 --; end 3-3",
		`@\61 1`: "at 0-6 a1; end 6-6",
		"@1":     "delim 0-1 @; number 1-2 1 !; end 2-2",
		"@-1":    "delim 0-1 @; number 1-3 -1 !; end 3-3",
		"@":      "delim 0-1 @; end 1-1",
		"@ a":    "delim 0-1 @; space 1-2; ident 2-3 a; end 3-3",
	})
}

// P3.1: what escapes stand for, and where they end.
func TestEscapes(t *testing.T) {
	check(t, map[string]string{
		`a\26 b`:     "ident 0-6 a&b; end 6-6",
		`\26b`:       "ident 0-4 \u026b; end 4-4",
		`\0000411`:   "ident 0-8 A1; end 8-8",
		`\000041 1`:  "ident 0-9 A1; end 9-9",
		`\41  b`:     "ident 0-4 A; space 4-5; ident 5-6 b; end 6-6",
		"\\41\tb":    "ident 0-5 Ab; end 5-5",
		"\\41\nb":    "ident 0-5 Ab; end 5-5",
		"\\41\rb":    "ident 0-3 A; delim 3-4 \r; ident 4-5 b; end 5-5",
		"\\41\fb":    "ident 0-3 A; delim 3-4 \f; ident 4-5 b; end 5-5",
		`\fF`:        "ident 0-3 \u00ff; end 3-3",
		`\41`:        "ident 0-3 A; end 3-3",
		`\g`:         "ident 0-2 g; end 2-2",
		`\G1 x`:      "ident 0-3 G1; space 3-4; ident 4-5 x; end 5-5",
		`\\`:         `ident 0-2 \; end 2-2`,
		`\ a`:        "ident 0-3  a; end 3-3",
		`\é`:         "ident 0-2 é; end 2-2",
		"\\\r":       "ident 0-2 \r; end 2-2",
		`\(`:         "ident 0-2 (; end 2-2",
		`\`:          "ident 0-1 \ufffd; end 1-1",
		`a\`:         "ident 0-2 a\ufffd; end 2-2",
		"\\\n":       "delim 0-1 \\; space 1-2; end 2-2",
		"a\\\n":      "ident 0-1 a; delim 1-2 \\; space 2-3; end 3-3",
		`\0 a`:       "ident 0-4 \ufffda; end 4-4",
		`\000000a`:   "ident 0-8 \ufffda; end 8-8",
		`\d7ff `:     "ident 0-6 \ud7ff; end 6-6",
		`\d800 `:     "ident 0-6 \ufffd; end 6-6",
		`\dfff `:     "ident 0-6 \ufffd; end 6-6",
		`\e000 `:     "ident 0-6 \ue000; end 6-6",
		`\10ffff`:    "ident 0-7 \U0010ffff; end 7-7",
		`\110000`:    "ident 0-7 \ufffd; end 7-7",
		`\ffffff`:    "ident 0-7 \ufffd; end 7-7",
		`\61\62 \63`: "ident 0-10 abc; end 10-10",
		`\61/**/`:    "ident 0-3 a; end 7-7",
		"\\\x00":     "ident 0-2 \ufffd; end 2-2",
		"\\\ufeff":   "ident 0-2 \ufeff; end 2-2",
	})
}

// P3.1: strings, right ones and bad ones.
func TestStrings(t *testing.T) {
	check(t, map[string]string{
		`""`:           "string 0-2; end 2-2",
		`''`:           "string 0-2; end 2-2",
		`"a'b"`:        "string 0-5 a'b; end 5-5",
		`'a"b'c`:       `string 0-5 a"b; ident 5-6 c; end 6-6`,
		`"a`:           "string 0-2 a; end 2-2",
		`"`:            "string 0-1; end 1-1",
		`"a"'b'`:       "string 0-3 a; string 3-6 b; end 6-6",
		`"/*a*/"`:      "string 0-7 /*a*/; end 7-7",
		`"\"\'"`:       `string 0-6 "'; end 6-6`,
		`"\61 b"`:      "string 0-7 ab; end 7-7",
		"\"\\61\nb\"":  "string 0-7 ab; end 7-7",
		"\"a\\\nb\"":   "string 0-6 ab; end 6-6",
		"\"a\\\n":      "string 0-4 a; end 4-4",
		"\"\\\n\nb\"":  "badstring 0-3; space 3-4; ident 4-5 b; string 5-6; end 6-6",
		`"a\`:          "string 0-3 a; end 3-3",
		`"\`:           "string 0-2; end 2-2",
		`"\\`:          `string 0-3 \; end 3-3`,
		"\"a\nb\"":     "badstring 0-2; space 2-3; ident 3-4 b; string 4-5; end 5-5",
		"'\n'":         "badstring 0-1; space 1-2; string 2-3; end 3-3",
		"\"a\n":        "badstring 0-2; space 2-3; end 3-3",
		"\"\ra\fb\t\"": "string 0-7 \ra\fb\t; end 7-7",
		"\"\\\r\n\"":   "badstring 0-3; space 3-4; string 4-5; end 5-5",
		"\"\\\fa\"":    "string 0-5 \fa; end 5-5",
		"'é😀\x01\x7f'": "string 0-6 é😀\x01\x7f; end 6-6",
		"'a\x00b'":     "string 0-5 a\ufffdb; end 5-5",
		`'\0 \d800 '`:  "string 0-11 \ufffd\ufffd; end 11-11",
		"'\\\x00'":     "string 0-4 \ufffd; end 4-4",
	})
}

// P3.1: numbers, percents and dimensions.
func TestNumbers(t *testing.T) {
	check(t, map[string]string{
		"0":        "number 0-1 0 !; end 1-1",
		"0129":     "number 0-4 0129 !; end 4-4",
		"+5":       "number 0-2 +5 !; end 2-2",
		"-5":       "number 0-2 -5 !; end 2-2",
		".5":       "number 0-2 .5; end 2-2",
		"+.5":      "number 0-3 +.5; end 3-3",
		"-.5":      "number 0-3 -.5; end 3-3",
		"1.5":      "number 0-3 1.5; end 3-3",
		"1.":       "number 0-1 1 !; delim 1-2 .; end 2-2",
		"1..5":     "number 0-1 1 !; delim 1-2 .; number 2-4 .5; end 4-4",
		"1.2.3":    "number 0-3 1.2; number 3-5 .3; end 5-5",
		".":        "delim 0-1 .; end 1-1",
		"..1":      "delim 0-1 .; number 1-3 .1; end 3-3",
		"+":        "delim 0-1 +; end 1-1",
		"+-1":      "delim 0-1 +; number 1-3 -1 !; end 3-3",
		"-+1":      "delim 0-1 -; number 1-3 +1 !; end 3-3",
		"+.":       "delim 0-1 +; delim 1-2 .; end 2-2",
		"-.a":      "delim 0-1 -; delim 1-2 .; ident 2-3 a; end 3-3",
		"1+2":      "number 0-1 1 !; number 1-3 +2 !; end 3-3",
		"1-2":      "number 0-1 1 !; number 1-3 -2 !; end 3-3",
		"1e3":      "number 0-3 1e3; end 3-3",
		"1E3":      "number 0-3 1E3; end 3-3",
		"1e+30":    "number 0-5 1e+30; end 5-5",
		"1e-30":    "number 0-5 1e-30; end 5-5",
		"1.5e3px":  "dimension 0-7 1.5e3 px; end 7-7",
		"1e3.5":    "number 0-3 1e3; number 3-5 .5; end 5-5",
		"1e3e4":    "dimension 0-5 1e3 e4; end 5-5",
		"1.e3":     "number 0-1 1 !; delim 1-2 .; ident 2-4 e3; end 4-4",
		".5e1":     "number 0-4 .5e1; end 4-4",
		"-1.25E-2": "number 0-8 -1.25E-2; end 8-8",
	})
	check(t, map[string]string{
		"1e":     "dimension 0-2 1 ! e; end 2-2",
		"1e+":    "dimension 0-2 1 ! e; delim 2-3 +; end 3-3",
		"1e-":    "dimension 0-3 1 ! e-; end 3-3",
		"1e-a":   "dimension 0-4 1 ! e-a; end 4-4",
		"1e+a":   "dimension 0-2 1 ! e; delim 2-3 +; ident 3-4 a; end 4-4",
		"3px":    "dimension 0-3 3 ! px; end 3-3",
		"3PX(":   "dimension 0-3 3 ! PX; ( 3-4; end 4-4",
		"3-a":    "dimension 0-3 3 ! -a; end 3-3",
		"3--":    "dimension 0-3 3 ! --; end 3-3",
		"3-":     "number 0-1 3 !; delim 1-2 -; end 2-2",
		`3\70 x`: "dimension 0-6 3 ! px; end 6-6",
		`3\`:     "dimension 0-2 3 ! \ufffd; end 2-2",
		"3\\\n":  "number 0-1 3 !; delim 1-2 \\; space 2-3; end 3-3",
		"3é":     "dimension 0-2 3 ! é; end 2-2",
		"3_":     "dimension 0-2 3 ! _; end 2-2",
		"3 px":   "number 0-1 3 !; space 1-2; ident 2-4 px; end 4-4",
		"3/**/a": "number 0-1 3 !; ident 5-6 a; end 6-6",
		"4%":     "percent 0-2 4 !; end 2-2",
		"-4.5%%": "percent 0-5 -4.5; delim 5-6 %; end 6-6",
		"4e1%a":  "percent 0-4 4e1; ident 4-5 a; end 5-5",
		"4a%":    "dimension 0-2 4 ! a; delim 2-3 %; end 3-3",
		"4 %":    "number 0-1 4 !; space 1-2; delim 2-3 %; end 3-3",
		"%":      "delim 0-1 %; end 1-1",
		"٣":      "ident 0-1 ٣; end 1-1",
	})
}

// P3.1: urls, and functions of that name.
func TestURLs(t *testing.T) {
	check(t, map[string]string{
		"url()":             "url 0-5; end 5-5",
		"url(":              "url 0-4; end 4-4",
		"url( \t\n":         "url 0-7; end 7-7",
		"url( \t\n)a":       "url 0-8; ident 8-9 a; end 9-9",
		"url(a)b":           "url 0-6 a; ident 6-7 b; end 7-7",
		"uRl(a":             "url 0-5 a; end 5-5",
		`\75 r\4c(a)`:       "url 0-11 a; end 11-11",
		"url( a\n )":        "url 0-9 a; end 9-9",
		"url(a ":            "url 0-6 a; end 6-6",
		"url(/*a*/)":        "url 0-10 /*a*/; end 10-10",
		"url(é:;,[]{}#)":    "url 0-14 é:;,[]{}#; end 14-14",
		"url(\f\r!\u0080~)": "url 0-10 \f\r!\u0080~; end 10-10",
		`url(\29 b)`:        "url 0-10 )b; end 10-10",
		`url(\)\"\(\ b)`:    `url 0-14 )"( b; end 14-14`,
		`url(\`:             "url 0-5 \ufffd; end 5-5",
		`url(a\`:            "url 0-6 a\ufffd; end 6-6",
		`url(\0 \d800 )`:    "url 0-14 \ufffd\ufffd; end 14-14",
		"url(\\\x00)":       "url 0-7 \ufffd; end 7-7",
		"url(\\\x01)":       "url 0-7 \x01; end 7-7",
		`url(\26  )`:        "url 0-10 &; end 10-10",
		`url(  \26 a)`:      "url 0-12 &a; end 12-12",
	})
	check(t, map[string]string{
		"url(a b)c":     "badurl 0-8; ident 8-9 c; end 9-9",
		"url( a b":      "badurl 0-8; end 8-8",
		"url(a'b)":      "badurl 0-8; end 8-8",
		`url(a"b)`:      "badurl 0-8; end 8-8",
		"url(a(b)c)":    "badurl 0-8; ident 8-9 c; ) 9-10; end 10-10",
		"url(a \\)b)c":  "badurl 0-10; ident 10-11 c; end 11-11",
		`url(a"\)b)c`:   "badurl 0-10; ident 10-11 c; end 11-11",
		`url(a"\29 )c`:  "badurl 0-11; ident 11-12 c; end 12-12",
		"url(a\\\n)c":   "badurl 0-8; ident 8-9 c; end 9-9",
		"url(a b\\\n)c": "badurl 0-10; ident 10-11 c; end 11-11",
		`url(a"\`:       "badurl 0-7; end 7-7",
		`url(a b"c)"`:   "badurl 0-10; string 10-11; end 11-11",
		"url(\\\n":      "badurl 0-6; end 6-6",
		"url(\x00)":     "badurl 0-6; end 6-6",
		"url(\x00":      "badurl 0-5; end 5-5",
		"url(a \u0080)": "badurl 0-8; end 8-8",
		"url(a /**/)":   "badurl 0-11; end 11-11",
	})
	check(t, map[string]string{
		"url('a')":    "function 0-4 url; string 4-7 a; ) 7-8; end 8-8",
		`url("`:       "function 0-4 url; string 4-5; end 5-5",
		`URL( 	"a"`:   "function 0-4 URL; space 4-6; string 6-9 a; end 9-9",
		`\75rl( 'a'`:  "function 0-6 url; space 6-7; string 7-10 a; end 10-10",
		"url(/**/'a'": "badurl 0-11; end 11-11",
		"url (a)":     "ident 0-3 url; space 3-4; ( 4-5; ident 5-6 a; ) 6-7; end 7-7",
		"url":         "ident 0-3 url; end 3-3",
		"urls(a)":     "function 0-5 urls; ident 5-6 a; ) 6-7; end 7-7",
		"-url(a)":     "function 0-5 -url; ident 5-6 a; ) 6-7; end 7-7",
		"@url(a)":     "at 0-4 url; ( 4-5; ident 5-6 a; ) 6-7; end 7-7",
		"#url(a)":     "hash 0-4 ! url; ( 4-5; ident 5-6 a; ) 6-7; end 7-7",
		"1url(a)":     "dimension 0-4 1 ! url; ( 4-5; ident 5-6 a; ) 6-7; end 7-7",
	})
}

// P3.1: each character from 0 to 0x9f, within a url, a string, a name, and alone.
func TestEveryCharacter(t *testing.T) {
	wrong := map[int]bool{'"': true, '\'': true, '(': true, 11: true, 127: true}
	for c := range 32 {
		wrong[c] = c < 9 || c == 11 || c > 13
	}
	for c := range 0xa0 {
		text := string(decode.Text([]int{c}))
		if c == 0 {
			text = "\ufffd"
		}
		url := token.Next([]int{'u', 'r', 'l', '(', 'a', c, 'b', ')'}, 0)
		quoted := token.Next([]int{'"', c, '"'}, 0)
		name := token.Next([]int{'x', c, 'x'}, 0)
		wantURL, wantQuoted, wantName := "url 0-8 a"+text+"b", "string 0-3 "+text, "ident 0-1 x"
		switch {
		case c == ')':
			wantURL = "url 0-6 a"
		case c == '\\': // an escape of the b, of the mark, of the x
			wantURL, wantQuoted, wantName = "url 0-8 a\u000b", `string 0-3 "`, "ident 0-3 xx"
		case wrong[c] || c == 9 || c == 10 || c == ' ':
			wantURL = "badurl 0-8"
		}
		switch {
		case c == '"':
			wantQuoted = "string 0-2"
		case c == 10:
			wantQuoted = "badstring 0-1"
		case c == '(':
			wantName = "function 0-2 x"
		case c >= 0x80 || strings.ContainsRune("_-0123456789abcdefghijklmnopqrstuvwxyzABCDEFGHIJKLMNOPQRSTUVWXYZ", rune(c)):
			wantName = "ident 0-3 x" + text + "x"
		}
		if got := tell(url); got != wantURL {
			t.Errorf("%d: %s, not %s", c, got, wantURL)
		}
		if got := tell(quoted); got != wantQuoted {
			t.Errorf("%d: %s, not %s", c, got, wantQuoted)
		}
		if got := tell(name); got != wantName {
			t.Errorf("%d: %s, not %s", c, got, wantName)
		}
	}
}

// P3.1, P3.3: numbers that are no characters: those below 0 are signs, those from 0x80 on are of names; the stand-in in texts.
func TestNoCharacters(t *testing.T) {
	for _, x := range []struct {
		in   []int
		want string
	}{
		{[]int{0}, "delim 0-1 \ufffd; end 1-1"},
		{[]int{-1}, "delim 0-1 \ufffd; end 1-1"},
		{[]int{math.MinInt, math.MinInt}, "delim 0-1 \ufffd; delim 1-2 \ufffd; end 2-2"},
		{[]int{0xd800, 'a'}, "ident 0-2 \ufffda; end 2-2"},
		{[]int{0x110000, math.MaxInt}, "ident 0-2 \ufffd\ufffd; end 2-2"},
		{[]int{1<<32 + ' '}, "ident 0-1 \ufffd; end 1-1"},
		{[]int{1<<32 + '"', 1<<32 + ')'}, "ident 0-2 \ufffd\ufffd; end 2-2"},
		{[]int{'#', math.MaxInt}, "hash 0-2 ! \ufffd; end 2-2"},
		{[]int{'#', -1}, "delim 0-1 #; delim 1-2 \ufffd; end 2-2"},
		{[]int{'@', 0xdfff}, "at 0-2 \ufffd; end 2-2"},
		{[]int{'1', 0x110000}, "dimension 0-2 1 ! \ufffd; end 2-2"},
		{[]int{'\\', -1}, "ident 0-2 \ufffd; end 2-2"},
		{[]int{'\\', 0}, "ident 0-2 \ufffd; end 2-2"},
		{[]int{'\\', 0x110000, 'a'}, "ident 0-3 \ufffda; end 3-3"},
		{[]int{'-', '\\', -5}, "ident 0-3 -\ufffd; end 3-3"},
		{[]int{'"', -1, 0xd800, 0x110000, 0, '"'}, "string 0-6 \ufffd\ufffd\ufffd\ufffd; end 6-6"},
		{[]int{'"', '\\', -1, '\\', 0, '"'}, "string 0-6 \ufffd\ufffd; end 6-6"},
		{[]int{'u', 'r', 'l', '(', 0xd800, 0x110000, ')'}, "url 0-7 \ufffd\ufffd; end 7-7"},
		{[]int{'u', 'r', 'l', '(', -1, ')'}, "badurl 0-6; end 6-6"},
		{[]int{'u', 'r', 'l', '(', -1}, "badurl 0-5; end 5-5"},
		{[]int{'u', 'r', 'l', '(', ' ', -1}, "badurl 0-6; end 6-6"},
		{[]int{'u', 'r', 'l', '(', '\\', -1, ')'}, "url 0-7 \ufffd; end 7-7"},
		{[]int{'/', '*', -1, 0, '*', '/', -1}, "delim 6-7 \ufffd; end 7-7"},
		{[]int{'a', 0xd800, '('}, "function 0-3 a\ufffd; end 3-3"},
	} {
		if got := tellAll(token.All(x.in)); got != x.want {
			t.Errorf("%d:\n%s, not\n%s", x.in, got, x.want)
		}
	}
}

// P3.1: Next at each place, and out of bounds; it looks at nothing ahead.
func TestNextAtPlaces(t *testing.T) {
	list := decode.Chars([]byte("ab/*c*/ d"))
	for at, want := range map[int]string{
		math.MinInt: "ident 0-2 ab", -1: "ident 0-2 ab", 0: "ident 0-2 ab", 1: "ident 1-2 b",
		2: "space 7-8", 3: "delim 3-4 *", 4: "ident 4-5 c", 5: "delim 5-6 *", 6: "delim 6-7 /", 7: "space 7-8",
		8: "ident 8-9 d", 9: "end 9-9", 10: "end 9-9", math.MaxInt: "end 9-9",
	} {
		if got := tell(token.Next(list, at)); got != want {
			t.Errorf("%d: %s, not %s", at, got, want)
		}
	}
	if got := token.Next(nil, 3); got != (api.Token{}) {
		t.Error(tell(got))
	}
	checkFirst(t, map[string]string{"": "end 0-0", "/*": "end 2-2", "/**/": "end 4-4", "a b": "ident 0-1 a"})
}

// P3.1: Read prepares the characters of bytes.
func TestRead(t *testing.T) {
	for s, want := range map[string]string{
		"":                 "end 0-0",
		"\ufeffa\xffb":     "ident 0-3 a\ufffdb; end 3-3",
		"a\ufeff":          "ident 0-2 a\ufeff; end 2-2",
		"a\r\nb\rc\fd":     "ident 0-1 a; space 1-2; ident 2-3 b; space 3-4; ident 4-5 c; space 5-6; ident 6-7 d; end 7-7",
		"\x00":             "ident 0-1 \ufffd; end 1-1",
		"'\r\n'":           "badstring 0-1; space 1-2; string 2-3; end 3-3",
		"'a\\\r\nb'":       "string 0-6 ab; end 6-6",
		"\\41\r\nb":        "ident 0-5 Ab; end 5-5",
		"\\\f":             "delim 0-1 \\; space 1-2; end 2-2",
		"url(\r\na\x00\f)": "url 0-9 a\ufffd; end 9-9",
		"é>\xe2\x82":       "ident 0-1 é; delim 1-2 >; ident 2-3 \ufffd; end 3-3",
	} {
		if got := tellAll(token.Read([]byte(s))); got != want {
			t.Errorf("%q:\n%s, not\n%s", s, got, want)
		}
	}
}

// P3.2: parts of characters, at places within and out of bounds, of right and of wrong numbers.
func TestText(t *testing.T) {
	list := decode.Chars([]byte("aé€😀 b"))
	for _, x := range []struct {
		from, to int
		want     string
	}{
		{0, 6, "aé€😀 b"}, {0, 1, "a"}, {1, 3, "é€"}, {3, 4, "😀"}, {5, 6, "b"}, {4, 99, " b"}, {0, math.MaxInt, "aé€😀 b"},
		{-1, 2, "aé"}, {math.MinInt, math.MaxInt, "aé€😀 b"}, {-5, -1, ""}, {-5, 0, ""},
		{2, 2, ""}, {3, 1, ""}, {6, 6, ""}, {6, 9, ""}, {7, 9, ""}, {9, 7, ""}, {math.MaxInt, math.MinInt, ""}, {5, -1, ""},
	} {
		if got := token.Text(list, x.from, x.to); got != x.want {
			t.Errorf("%d, %d: %q, not %q", x.from, x.to, got, x.want)
		}
	}
	if got := token.Text([]int{-1, 0xd800, 'a', 0x110000, math.MaxInt, '\\', '0', 13}, 0, 8); got != "\ufffd\ufffda\ufffd\ufffd\\0\r" {
		t.Errorf("%q", got)
	}
	for _, from := range []int{-1, 0, 1} {
		if got := token.Text(nil, from, 3); got != "" {
			t.Errorf("%q", got)
		}
	}
}

// P3.2: Bad, of all kinds, and of numbers that are none.
func TestBad(t *testing.T) {
	for kind := -2; kind < len(kinds)+3; kind++ {
		want := kind == api.TokBadString || kind == api.TokBadURL
		if got := token.Bad(api.Token{Kind: kind, To: 3, Text: "a"}); got != want {
			t.Errorf("%d: %t", kind, got)
		}
	}
}
