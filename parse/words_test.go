package parse_test

import (
	"slices"
	"strings"
	"testing"

	"wattle/api"
	"wattle/parse"
	"wattle/sel"
	"wattle/token"
	"wattle/write"
)

// The chapter's words as rules: each finds, from a place of a row of letters on, all places where what it is of may end. What no rule could take is what can't stand there.

// row is letters, one for each token, and the furthest place that a letter was looked for at.
type row struct {
	letters  string
	furthest int
}

type rule func(r *row, at int) []int

// where is one letter that is as a function tells.
func where(is func(s string, at int) bool) rule {
	return func(r *row, at int) []int {
		r.furthest = max(r.furthest, at)
		if at < len(r.letters) && is(r.letters, at) {
			return []int{at + 1}
		}
		return nil
	}
}

// one is one letter of some.
func one(some string) rule {
	return where(func(s string, at int) bool { return strings.IndexByte(some, s[at]) >= 0 })
}

// all is rules one behind the other.
func all(rules ...rule) rule {
	return func(r *row, at int) []int {
		places := []int{at}
		for _, x := range rules {
			var next []int
			for _, place := range places {
				next = append(next, x(r, place)...)
			}
			slices.Sort(next)
			places = slices.Compact(next)
		}
		return places
	}
}

func either(rules ...rule) rule {
	return func(r *row, at int) []int {
		var out []int
		for _, x := range rules {
			out = append(out, x(r, at)...)
		}
		slices.Sort(out)
		return slices.Compact(out)
	}
}

func maybe(x rule) rule { return either(all(), x) }

// times is a rule as often as it fits, or not at all.
func times(x rule) rule {
	return func(r *row, at int) []int {
		out := []int{at}
		for i := 0; i < len(out); i++ {
			for _, place := range x(r, out[i]) {
				if !slices.Contains(out, place) {
					out = append(out, place)
				}
			}
		}
		return out
	}
}

// pieces are the tokens that letters stand for.
func pieces() map[byte]api.Token {
	out := map[byte]api.Token{}
	for letter, s := range map[byte]string{
		'a': "a", 'i': "I", 'f': "Of", 'h': "hover", 'b': "Before", 'm': "marker", 't': "first-of-type", 'e': "empty", 'n': "n",
		' ': " ", ',': ",", '>': ">", '~': "~", '*': "*", '|': "|", '=': "=", '.': ".", '[': "[", ']': "]", ':': ":", '(': "(", ')': ")", '{': "{", '}': "}", ';': ";",
		'#': "#x", '1': "#1", 'S': "'x'", 'B': "'x\n", 'I': "is(", 'N': "nth-child(", 'T': "nth-of-type(", 'L': "lang(", 'X': "x(", '2': "2",
	} {
		out[letter] = token.Read([]byte(s))[0]
	}
	return out
}

const (
	nameLetters = "aifhbmten"
	anyLetters  = nameLetters + ",>~*|=.:;#1S2" // those that open nothing and close nothing
)

func isName(s string, at int) bool {
	return at < len(s) && strings.IndexByte(nameLetters, s[at]) >= 0
}

// bar is the | of a prefix, with what it is of behind.
func bar(brackets bool) rule {
	return where(func(s string, at int) bool {
		return s[at] == '|' && (isName(s, at+1) || !brackets && at+1 < len(s) && s[at+1] == '*')
	})
}

func prefix(brackets bool) rule {
	return either(all(one(nameLetters+"*"), bar(brackets)), bar(brackets))
}

// grammar gives the rule of a whole list.
func grammar() rule {
	var list rule
	later := func(r *row, at int) []int { return list(r, at) }
	name, blanks := one(nameLetters), times(one(" "))

	value := all(blanks, either(name, one("S")), blanks, maybe(all(one("i"), blanks)), one("]"))
	condition := all(either(one("="), all(one("~|*"), one("="))), value)
	behind := all(blanks, either(one("]"), condition))
	dash := where(func(s string, at int) bool { return s[at] == '|' && at+1 < len(s) && s[at+1] == '=' })
	// Right behind a name without a prefix a | is an operator's only with its = .
	bare := either(one("]"), all(one(" "), behind), all(either(one("="), all(either(one("~*"), dash), one("="))), value))
	brackets := all(one("["), blanks, either(all(name, bare), all(prefix(true), name, behind)))

	var inside func(close string) rule
	group := func(open, close string) rule {
		return func(r *row, at int) []int { return all(one(open), times(inside(close)), one(close))(r, at) }
	}
	item := func(close string) rule {
		free := anyLetters + strings.ReplaceAll(")]}", close, "")
		return either(one(free), group("(INTLX", ")"), group("[", "]"), group("{", "}"))
	}
	inside = func(close string) rule { return either(one(" "), item(close)) }

	function := either(
		all(one("I"), later, one(")")),
		all(one("N"), blanks, one("n2"), blanks, maybe(all(one("f"), later)), one(")")),
		all(one("T"), blanks, one("n2"), blanks, one(")")),
		all(one("L"), blanks, item(")"), times(inside(")")), one(")")),
	)
	// Two colons may stand within a function as well: it's the name behind them that can't.
	colons := all(one(":"), one(":"), one(""))
	simple := either(one("#"), all(one("."), name), brackets, colons, all(one(":"), either(one("hte"), function)))
	element := all(maybe(prefix(false)), one(nameLetters+"*"))
	compound := either(all(element, times(simple)), all(simple, times(simple)))
	combinator := either(all(blanks, one(">~"), blanks), all(one(" "), blanks))
	selector := all(compound, times(all(combinator, compound)))
	comma := all(blanks, one(","), blanks)
	list = all(blanks, selector, times(all(comma, selector)), blanks)

	pseudo := all(one(":"), either(one("b"), all(one(":"), one("bm"))))
	top := either(selector, all(selector, maybe(combinator), pseudo), pseudo)
	// A compound's pseudo-element may stand right behind it, or make a compound by itself.
	return all(blanks, top, times(all(comma, top)), blanks, one("$"))
}

// checkRow holds what is told of a row against the rules, and gives the place of the wrong letter, or the row's length.
func checkRow(t *testing.T, g rule, tokens map[byte]api.Token, letters string) int {
	t.Helper()
	in := make([]api.Token, len(letters))
	for i := range letters {
		in[i] = tokens[letters[i]]
		in[i].From, in[i].To = 10*i+7, 10*i+17
	}
	names := api.Names{Prefixes: []string{"a", "I", "Of", "hover", "Before", "marker", "first-of-type", "empty", "n"}, Spaces: make([]string, 9)}
	got, err := parse.Tokens(in, names)
	r := row{letters: letters + "$"}
	if ends := g(&r, 0); len(ends) == 0 {
		at := 10*r.furthest + 7
		if len(letters) == 0 {
			at = 0
		}
		if got != nil || !isFault(err, api.ErrForm, at) {
			t.Fatalf("%q: %v, %#v, not at %d", letters, got, err, r.furthest)
		}
		return r.furthest
	}
	if at := refused(letters); at >= 0 {
		if got != nil || !isFault(err, api.ErrUnsupported, 10*at+7) {
			t.Fatalf("%q: %v, %#v, not unsupported at %d", letters, got, err, at)
		}
		return len(letters)
	}
	again, err2 := parse.Selectors([]byte(write.Text(got)), names)
	if err != nil || sel.Check(got, names) != nil || err2 != nil || !sel.Same(got, again) {
		t.Fatalf("%q: %v, %v, %v, %v", letters, got, err, again, err2)
	}
	return len(letters)
}

// refused gives the place of the first colon that isn't supported in a row that can stand; -1, if there is none.
func refused(letters string) int {
	for i := strings.IndexByte(letters, 'L'); i >= 0; {
		// What stands in lang is no pseudo-class's.
		open, end := 1, i+1
		for open > 0 {
			open += opens(letters[end])
			end++
		}
		letters = letters[:i+1] + strings.Repeat(" ", end-i-1) + letters[end:]
		next := strings.IndexByte(letters[end:], 'L')
		if next < 0 {
			break
		}
		i = end + next
	}
	for i := range letters {
		if letters[i] != ':' || i > 0 && letters[i-1] == '.' {
			continue
		}
		switch letters[i+1] {
		case 'e', 'L':
			return i
		case 't', 'T':
			if !typed(letters, i) {
				return i
			}
		}
	}
	return -1
}

// opens counts what a letter opens, where just round brackets do.
func opens(c byte) int {
	switch c {
	case '(', 'I', 'N', 'T', 'L', 'X':
		return 1
	case ')':
		return -1
	}
	return 0
}

// typed tells whether the compound in which a colon stands begins with a name.
func typed(letters string, at int) bool {
	for first := at - 1; first >= 0; first-- {
		// What is behind a name up to the colon are simple selectors, if the compound begins there.
		x := row{letters: letters[:at]}
		if isName(letters, first) && (first == 0 || strings.IndexByte(" ,>~If|", letters[first-1]) >= 0) && slices.Contains(times(simplesOf())(&x, first+1), at) {
			return true
		}
	}
	return false
}

// simplesOf is the simple selectors without what has lists, which is enough for short rows.
func simplesOf() rule {
	name, blanks := one(nameLetters), times(one(" "))
	return either(one("#"), all(one("."), name), all(one("["), times(one(nameLetters+" =|~*S")), one("]")), all(one(":"), either(one("hte"), all(one("NT"), blanks, one("n2"), blanks, one(")")), all(one("I"), times(one(nameLetters+" *.")), one(")")))))
}

// P9.1, P9.2: all rows of some tokens behind a beginning that can stand, up to a length.
func TestTokensByTheWords(t *testing.T) {
	g, tokens := grammar(), pieces()
	rows := 0
	var try func(letters, some string, most int)
	try = func(letters, some string, most int) {
		rows++
		if at := checkRow(t, g, tokens, letters); most == 0 || at < len(letters)-1 {
			return
		}
		for _, c := range []byte(some) {
			try(letters+string(rune(c)), some, most-1)
		}
	}
	every := nameLetters + " ,>~*|=.[]:(){};#1SBINTLX2"
	try("", every, 4)
	for _, x := range []struct {
		ahead, some string
		most        int
	}{
		{"", "a *|.", 6}, {"", "a ,>:b", 6}, {"[", "a *|=]", 6}, {"[a", " ~|=iS]", 6}, {"[a=", " aiS|]", 5}, {":", "hb: ,a", 5}, {"a:", "tT2) .", 6}, {":I", "a ,)>:b", 6}, {":I:", "Ia) ", 6}, {":N", " n2fa,)", 6}, {":L", " a()[]B", 5}, {":L(", "a)[]{}", 5}, {"*:", "ethI", 3}, {":e", ":ea ", 4},
	} {
		try(x.ahead, x.some, x.most)
	}
	t.Log(rows)
}
