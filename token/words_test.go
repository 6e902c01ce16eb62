package token_test

import (
	"regexp"
	"strings"
	"testing"
	"unicode/utf8"

	"wattle/api"
	"wattle/chars"
	"wattle/decode"
	"wattle/token"
)

// The document's words as patterns, to hold the program against: of a part of a text, and what stands behind it isn't looked at.
const (
	escapes    = `(?:\\[0-9a-fA-F]{1,6}[ \t\n]?|\\[^0-9a-fA-F\n]|\\\z)`
	starts     = `[a-zA-Z_\x{80}-\x{10ffff}]`
	names      = `(?:[-0-9a-zA-Z_\x{80}-\x{10ffff}]|` + escapes + `)`
	nameStarts = `(?:-?` + starts + `|-?` + escapes + `|--)`
)

var (
	commentsPattern = regexp.MustCompile(`^(?:/\*(?s:.*?)(?:\*/|\z))*`)
	spacePattern    = regexp.MustCompile(`^[ \t\n]+`)
	stringPattern   = regexp.MustCompile(`^(?:"((?:[^"\\\n]|\\\n|` + escapes + `)*)("?)|'((?:[^'\\\n]|\\\n|` + escapes + `)*)('?))`)
	hashPattern     = regexp.MustCompile(`^#(` + names + `+)`)
	hashName        = regexp.MustCompile(`^#` + nameStarts)
	atPattern       = regexp.MustCompile(`^@(` + nameStarts + names + `*)`)
	namePattern     = regexp.MustCompile(`^` + nameStarts + names + `*`)
	numberPattern   = regexp.MustCompile(`^[-+]?(?:[0-9]+(?:\.[0-9]+)?|\.[0-9]+)(?:[eE][-+]?[0-9]+)?`)
	wholePattern    = regexp.MustCompile(`^[-+]?[0-9]+$`)
	urlPattern      = regexp.MustCompile(`^[ \t\n]*((?:[^"'()\\ \t\n\x{0}-\x{8}\x{b}\x{e}-\x{1f}\x{7f}]|` + escapes + `)*)[ \t\n]*(?:\)|\z)`)
	badPattern      = regexp.MustCompile(`^(?:[^)\\]|` + escapes + `|\\\n)*\)?`)
	quotePattern    = regexp.MustCompile(`^[ \t\n]*["']`)
	escapePattern   = regexp.MustCompile(escapes + `|\\\n`)
)

// unescape gives what a part of a text stands for; within strings a \ at the end stands for nothing.
func unescape(s string, within bool) string {
	return escapePattern.ReplaceAllStringFunc(s, func(e string) string {
		digits := strings.TrimRight(e[1:], " \t\n")
		if e == "\\\n" || e == `\` && within {
			return ""
		}
		c, ok := 0, digits != ""
		for _, r := range digits {
			n, hex := chars.Hex(int(r))
			c, ok = c*16+n, ok && hex
		}
		switch {
		case e == `\`:
			return "\ufffd"
		case !ok:
			return e[1:]
		case c == 0:
			return "\ufffd"
		}
		return string(decode.Text([]int{c}))
	})
}

// words gives the token that a text begins with by the patterns, with how many bytes it takes as its To.
func words(s string) api.Token {
	if s == "" {
		return api.Token{}
	}
	if m := spacePattern.FindString(s); m != "" {
		return api.Token{Kind: api.TokSpace, To: len(m)}
	}
	if m := stringPattern.FindStringSubmatch(s); m != nil {
		if m[2]+m[4] == "" && len(m[0]) < len(s) && s[len(m[0])] == '\n' {
			return api.Token{Kind: api.TokBadString, To: len(m[0])}
		}
		return api.Token{Kind: api.TokString, To: len(m[0]), Text: unescape(m[1]+m[3], true)}
	}
	if m := numberPattern.FindString(s); m != "" {
		return wordsOfNumber(s, m)
	}
	if strings.HasPrefix(s, "-->") {
		return api.Token{Kind: api.TokCDC, To: 3}
	}
	if strings.HasPrefix(s, "<!--") {
		return api.Token{Kind: api.TokCDO, To: 4}
	}
	if m := namePattern.FindString(s); m != "" {
		return wordsOfName(s, m)
	}
	if m := atPattern.FindStringSubmatch(s); m != nil {
		return api.Token{Kind: api.TokAt, To: len(m[0]), Text: unescape(m[1], false)}
	}
	if m := hashPattern.FindStringSubmatch(s); m != nil {
		return api.Token{Kind: api.TokHash, To: len(m[0]), Text: unescape(m[1], false), Whole: hashName.MatchString(s)}
	}
	for kind, sign := range map[int]string{api.TokOpen: "(", api.TokClose: ")", api.TokOpenSquare: "[", api.TokCloseSquare: "]", api.TokOpenCurly: "{", api.TokCloseCurly: "}", api.TokComma: ",", api.TokColon: ":", api.TokSemicolon: ";"} {
		if strings.HasPrefix(s, sign) {
			return api.Token{Kind: kind, To: 1}
		}
	}
	_, size := utf8.DecodeRuneInString(s)
	return api.Token{Kind: api.TokDelim, To: size, Text: s[:size]}
}

func wordsOfNumber(s, number string) api.Token {
	t := api.Token{Kind: api.TokNumber, To: len(number), Number: number, Whole: wholePattern.MatchString(number)}
	if m := namePattern.FindString(s[t.To:]); m != "" {
		t.Kind, t.To, t.Text = api.TokDimension, t.To+len(m), unescape(m, false)
	} else if strings.HasPrefix(s[t.To:], "%") {
		t.Kind, t.To = api.TokPercent, t.To+1
	}
	return t
}

func wordsOfName(s, name string) api.Token {
	text, to := unescape(name, false), len(name)
	if !strings.HasPrefix(s[to:], "(") {
		return api.Token{Kind: api.TokIdent, To: to, Text: text}
	}
	to++
	if strings.ToLower(text) != "url" || quotePattern.MatchString(s[to:]) {
		return api.Token{Kind: api.TokFunction, To: to, Text: text}
	}
	if m := urlPattern.FindStringSubmatch(s[to:]); m != nil {
		return api.Token{Kind: api.TokURL, To: to + len(m[0]), Text: unescape(m[1], false)}
	}
	return api.Token{Kind: api.TokBadURL, To: to + len(badPattern.FindString(s[to:]))}
}

// wordsOfAll gives a text's tokens by the patterns, with places of characters.
func wordsOfAll(s string) []api.Token {
	var out []api.Token
	for at := 0; ; {
		at += len(commentsPattern.FindString(s[at:]))
		t := words(s[at:])
		t.From, t.To = at, at+t.To
		at = t.To
		t.From, t.To = utf8.RuneCountInString(s[:t.From]), utf8.RuneCountInString(s[:t.To])
		out = append(out, t)
		if t.Kind == api.TokEnd {
			return out
		}
	}
}

// everyRow calls a function with each text of up to some characters of an alphabet, with a text ahead.
func everyRow(ahead, alphabet string, most int, call func(string)) {
	call(ahead)
	if most == 0 {
		return
	}
	for _, r := range alphabet {
		everyRow(ahead+string(r), alphabet, most-1, call)
	}
}

// P3.1: all short texts of characters at which something changes, by the document's words.
func TestTokensByTheWords(t *testing.T) {
	for _, x := range []struct {
		ahead, alphabet string
		most            int
	}{
		{"", "a1-+.e\\\"'\n #@(/*%é\x01,", 3},
		{"", "<!->a", 5},
		{"", "1+-.eE%\\a", 5},
		{"", "/*a ", 6},
		{"", "\\-#@1a\n(", 5},
		{"\"", "\\\n\"a1 '", 5},
		{"url(", "a \\\n\"()1\x02", 4},
		{"a\\31", "0 \nag\\d", 4},
		{"\\", "0dD8f1 ", 5},
	} {
		everyRow(x.ahead, x.alphabet, x.most, func(s string) {
			got, want := tellAll(token.All(decode.Chars([]byte(s)))), tellAll(wordsOfAll(s))
			if got != want {
				t.Fatalf("%q:\n%s, not\n%s", s, got, want)
			}
		})
	}
}
