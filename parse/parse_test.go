package parse_test

import (
	"strconv"
	"strings"
	"testing"

	"wattle/api"
	"wattle/chars"
	"wattle/parse"
	"wattle/sel"
	"wattle/token"
)

// checkRead holds what is read of a text, with its end's token and without, against a list.
func checkRead(t *testing.T, s string, want []api.Complex) {
	t.Helper()
	got, err := parse.Selectors([]byte(s), prefixes)
	if err != nil || !sel.Same(got, want) {
		t.Errorf("%q: %v, %v, not %v", s, got, err, want)
	}
	if err := sel.Check(got, prefixes); err != nil {
		t.Errorf("%q: %v", s, err)
	}
	tokens := token.Read([]byte(s))
	for _, part := range [][]api.Token{tokens, tokens[:len(tokens)-1], append(tokens[:len(tokens):len(tokens)], token.Read([]byte("..,"))...)} {
		got, err := parse.Tokens(part, prefixes)
		if err != nil || !sel.Same(got, want) {
			t.Errorf("%q: %v, %v, not %v", s, got, err, want)
		}
	}
}

// P9.1: lists, selectors, combinators, with blanks and without.
func TestLists(t *testing.T) {
	a, b, c := typ("a"), class("b"), id("c")
	for s, want := range map[string][]api.Complex{
		"a": list(of(a)), " a ": list(of(a)), "\t\na/**/ /**/": list(of(a)), "a,.b": list(of(a), of(b)), " a , .b , #c ": list(of(a), of(b), of(c)), "a/**/,/**/.b": list(of(a), of(b)), "a,a": list(of(a), of(a)),
		"a .b": list(then(of(a), api.CombBelow, b)), "a \n/**/ .b": list(then(of(a), api.CombBelow, b)), "a/**/ .b": list(then(of(a), api.CombBelow, b)), "a>.b": list(then(of(a), api.CombChild, b)), "a > .b": list(then(of(a), api.CombChild, b)), "a> .b": list(then(of(a), api.CombChild, b)), "a >.b": list(then(of(a), api.CombChild, b)), "a/**/>/**/.b": list(then(of(a), api.CombChild, b)),
		"a+.b": list(then(of(a), api.CombNext, b)), "a + .b": list(then(of(a), api.CombNext, b)), "a~.b": list(then(of(a), api.CombLater, b)), "a  ~  .b": list(then(of(a), api.CombLater, b)),
		"a > .b c": list(then(then(of(a), api.CombChild, b), api.CombBelow, typ("c"))), "a .b>#c , a~.b": list(then(then(of(a), api.CombBelow, b), api.CombChild, c), then(of(a), api.CombLater, b)),
		"a.b#c": list(of(a, b, c)), "#c.b.b": list(of(c, b, b)), ".b/**/#c": list(of(b, c)), "a/**/.b": list(of(a, b)), "./**/b": list(of(b)),
		"a.b *#c": list(then(of(a, b), api.CombBelow, star, c)), "a *": list(then(of(a), api.CombBelow, star)), "a#c": list(of(a, c)), "#c a": list(then(of(c), api.CombBelow, a)),
		`.\31 a\ b`: list(of(class("1a b"))), `#\31`: list(of(id("1"))), "#-c": list(of(id("-c"))), "--": list(of(typ("--"))), "A.B#C": list(of(typ("A"), class("B"), id("C"))), `\.b`: list(of(typ(".b"))), ".é\U0001f600": list(of(class("é\U0001f600"))), ".a\x00": list(of(class("a\ufffd"))), "\ufeffa": list(of(a)), ".\xff": list(of(class("\ufffd"))),
		`\0`: list(of(typ("\ufffd"))), ".of": list(of(class("of"))), "even": list(of(typ("even"))), "i": list(of(typ("i"))), "root": list(of(typ("root"))),
	} {
		checkRead(t, s, want)
	}
}

// P9.1: elements' names and attributes' names, with prefixes and without.
func TestNames(t *testing.T) {
	p := func(s simple) []api.Complex { return list(of(in(api.NSNamed, "p", s))) }
	every := func(s simple) []api.Complex { return list(of(in(api.NSAny, "", s))) }
	empty := func(s simple) []api.Complex { return list(of(in(api.NSEmpty, "", s))) }
	for s, want := range map[string][]api.Complex{
		"a": list(of(typ("a"))), "*": list(of(star)), "p|a": p(typ("a")), "p|*": p(star), "p|p": p(typ("p")), "*|a": every(typ("a")), "*|*": every(star), "|a": empty(typ("a")), "|*": empty(star), "p/**/|/**/a": p(typ("a")), `Ö\ x|a`: list(of(in(api.NSNamed, "Ö x", typ("a")))), `\70|a`: p(typ("a")), "p": list(of(typ("p"))),
		"p|a.b": list(of(in(api.NSNamed, "p", typ("a")), class("b"))), "a |b": list(then(of(typ("a")), api.CombBelow, in(api.NSEmpty, "", typ("b")))), "a>*|*": list(then(of(typ("a")), api.CombChild, in(api.NSAny, "", star))), "*.b": list(of(star, class("b"))), "* *": list(then(of(star), api.CombBelow, star)), "a,|b": list(of(typ("a")), of(in(api.NSEmpty, "", typ("b")))),
		"[a]": list(of(has("a"))), "[ a ]": list(of(has("a"))), "[\n/**/a/**/ ]": list(of(has("a"))), "[p|a]": p(has("a")), "[ p|a ]": p(has("a")), "[*|a]": every(has("a")), "[ *|a]": every(has("a")), "[|a]": empty(has("a")), "[ |a ]": empty(has("a")), "[i]": list(of(has("i"))), "[A]": list(of(has("A"))), "a[b][c]": list(of(typ("a"), has("b"), has("c"))), "[p]": list(of(has("p"))),
		"[p|=a]": list(of(attr("p", api.OpDash, "a", 0))), "[q|=a]": list(of(attr("q", api.OpDash, "a", 0))), "[p |=a]": list(of(attr("p", api.OpDash, "a", 0))), "[p|q|=a]": p(attr("q", api.OpDash, "a", 0)), "[p|q |= a]": p(attr("q", api.OpDash, "a", 0)), "[*|q|=a]": every(attr("q", api.OpDash, "a", 0)), "[|q|=a]": empty(attr("q", api.OpDash, "a", 0)), "[p|q=a]": p(attr("q", api.OpIs, "a", 0)), "[*|q*=a]": every(attr("q", api.OpPart, "a", 0)),
	} {
		checkRead(t, s, want)
	}
}

// P9.1: operators, texts and marks.
func TestConditions(t *testing.T) {
	for sign, op := range map[string]int{"=": api.OpIs, "~=": api.OpWord, "|=": api.OpDash, "^=": api.OpBegin, "$=": api.OpEnd, "*=": api.OpPart} {
		for text, want := range map[string]string{"v": "v", "'v'": "v", `"v"`: "v", "''": "", `"a b"`: "a b", "V": "V", `'\26 \
x'`: "&x", "i": "i", "s": "s", "'I'": "I", "--": "--", "é": "é", "'\\0'": "\ufffd"} {
			for mark, number := range map[string]int{"": api.MarkNone, " i": api.MarkFold, " I ": api.MarkFold, "/**/i": api.MarkFold, "\ni\t": api.MarkFold, " s": api.MarkExact, " S": api.MarkExact, "/**/s ": api.MarkExact, ` \69`: api.MarkFold} {
				for _, form := range []string{"[t@#!]", "[ t@#!]", "[t @#!]", "[t@ #!]", "[ t @ #! ]", "[/**/t\n@\t#! /**/ ]"} {
					s := strings.NewReplacer("@", sign, "#", text, "!", mark).Replace(form)
					checkRead(t, s, list(of(attr("t", op, want, number))))
				}
			}
		}
	}
	for s, want := range map[string]simple{
		"[t='v'i]": attr("t", api.OpIs, "v", api.MarkFold), "[t='v'S]": attr("t", api.OpIs, "v", api.MarkExact), "[t=v/**/]": attr("t", api.OpIs, "v", 0), "[t=vi]": attr("t", api.OpIs, "vi", 0), "[t=i i]": attr("t", api.OpIs, "i", api.MarkFold), "[s=s s]": attr("s", api.OpIs, "s", api.MarkExact), "[t~/**/=v]": attr("t", api.OpWord, "v", 0),
		"[t='v]": {}, "[t='v": {}, `[t="v\"]`: {},
	} {
		if want.Kind == 0 {
			if got, err := parse.Selectors([]byte(s), prefixes); got != nil || !isFault(err, api.ErrForm, len(s)) {
				t.Errorf("%q: %v, %v", s, got, err)
			}
			continue
		}
		checkRead(t, s, list(of(want)))
	}
}

// P9.1: pseudo-classes and functions, by great and small letters; what they are told as.
func TestPseudoClasses(t *testing.T) {
	a, b := of(typ("a")), of(class("b"))
	for s, want := range map[string][]api.Complex{
		":root": list(of(simple{Kind: api.SelRoot})), ":ROOT": list(of(simple{Kind: api.SelRoot})), ":any-link": list(of(simple{Kind: api.SelLink})), ":Any-Link": list(of(simple{Kind: api.SelLink})), ":first-child": list(of(nth(0, 1))), ":FIRST-child": list(of(nth(0, 1))), ":link": list(of(state("link"))), ":fOCus-Visible": list(of(state("focus-visible"))), `:\68over`: list(of(state("hover"))), ":/**/hover": list(of(state("hover"))), "a:hover:root": list(of(typ("a"), state("hover"), simple{Kind: api.SelRoot})), "a :hover": list(then(a, api.CombBelow, state("hover"))),
		"a:first-of-type": list(of(typ("a"), nth(0, 1, a))), "A:First-Of-Type": list(of(typ("A"), nth(0, 1, of(typ("A"))))), "a.b:first-of-type": list(of(typ("a"), class("b"), nth(0, 1, a))), "p|a:first-of-type": list(of(in(api.NSNamed, "p", typ("a")), nth(0, 1, of(in(api.NSNamed, "p", typ("a")))))), "*|a:first-of-type": list(of(in(api.NSAny, "", typ("a")), nth(0, 1, of(in(api.NSAny, "", typ("a")))))), "|a:first-of-type": list(of(in(api.NSEmpty, "", typ("a")), nth(0, 1, of(in(api.NSEmpty, "", typ("a")))))),
		"a:nth-of-type(2n)": list(of(typ("a"), nth(2, 0, a))), "a:nth-of-type( ODD )": list(of(typ("a"), nth(2, 1, a))), "a:NTH-OF-TYPE(-n+3):first-of-type": list(of(typ("a"), nth(-1, 3, a), nth(0, 1, a))), "b a:nth-of-type(2)": list(then(of(typ("b")), api.CombBelow, typ("a"), nth(0, 2, a))), ":not(a:nth-of-type(1))": list(of(within(api.SelNot, of(typ("a"), nth(0, 1, a))))),
		":is(a)": list(of(within(api.SelIs, a))), ":IS( a , .b )": list(of(within(api.SelIs, a, b))), ":where(a,.b)": list(of(within(api.SelWhere, a, b))), ":Not(/**/a)": list(of(within(api.SelNot, a))), `:\69s(a)`: list(of(within(api.SelIs, a))), ":is(*)": list(of(within(api.SelIs, of(star)))), ":is(a > .b)": list(of(within(api.SelIs, then(a, api.CombChild, class("b"))))), ":is(a .b )": list(of(within(api.SelIs, then(a, api.CombBelow, class("b"))))), ":is(a):is(.b).c": list(of(within(api.SelIs, a), within(api.SelIs, b), class("c"))), ":is(:where(:not(a)),.b)": list(of(within(api.SelIs, of(within(api.SelWhere, of(within(api.SelNot, a)))), b))), "a:is(p|b [p|c])": list(of(typ("a"), within(api.SelIs, then(of(in(api.NSNamed, "p", typ("b"))), api.CombBelow, in(api.NSNamed, "p", has("c")))))), ":is(a) .b": list(then(of(within(api.SelIs, a)), api.CombBelow, class("b"))), ":is(a),.b": list(of(within(api.SelIs, a)), b),
		":nth-child(2n+1)": list(of(nth(2, 1))), ":nth-child( 2n + 1 )": list(of(nth(2, 1))), ":NTH-CHILD(EVEN)": list(of(nth(2, 0))), ":nth-child(n)": list(of(nth(1, 0))), ":nth-child(+n)": list(of(nth(1, 0))), ":nth-child(-3n- 7)": list(of(nth(-3, -7))), ":nth-child(5)": list(of(nth(0, 5))), ":nth-child(0n+0)": list(of(nth(0, 0))), ":nth-child(\n/**/-0/**/ )": list(of(nth(0, 0))), ":nth-child(1000000n - 1000000)": list(of(nth(1000000, -1000000))), ":nth-child(-1000000n+1000000)": list(of(nth(-1000000, 1000000))),
		":nth-child(2n of a)": list(of(nth(2, 0, a))), ":nth-child(2n Of a,.b)": list(of(nth(2, 0, a, b))), ":nth-child( odd  OF  a , .b )": list(of(nth(2, 1, a, b))), ":nth-child(2n + 1 of.b)": list(of(nth(2, 1, b))), ":nth-child(even/**/of/**/a)": list(of(nth(2, 0, a))), ":nth-child(5 of *)": list(of(nth(0, 5, of(star)))), ":nth-child(n of of)": list(of(nth(1, 0, of(typ("of"))))), ":nth-child(n of :nth-child(2 of a) > .b)": list(of(nth(1, 0, then(of(nth(0, 2, a)), api.CombChild, class("b"))))), `:nth-child(n \6f f a)`: list(of(nth(1, 0, a))), ":nth-child(n+1 of a:first-of-type)": list(of(nth(1, 1, of(typ("a"), nth(0, 1, a))))),
	} {
		checkRead(t, s, want)
	}
	for _, name := range []string{"hover", "active", "focus", "focus-visible", "visited", "link", "checked", "disabled", "enabled", "target"} {
		checkRead(t, ":"+name, list(of(state(name))))
		checkRead(t, "a:"+strings.ToUpper(name)+":root", list(of(typ("a"), state(name), simple{Kind: api.SelRoot})))
	}
}

// P9.1: pseudo-elements, with one colon and with two.
func TestPseudoElements(t *testing.T) {
	for _, name := range []string{"before", "after", "first-line", "first-letter", "marker", "selection", "placeholder", "backdrop"} {
		for _, s := range []string{name, strings.ToUpper(name), "/**/" + name, `\0000` + strconv.FormatInt(int64(name[0]), 16) + name[1:]} {
			checkRead(t, "::"+s, list(of(pseudo(name))))
			checkRead(t, "a:hover:/**/:"+s, list(of(typ("a"), state("hover"), pseudo(name))))
			checkRead(t, "a ::"+s+" , ::"+s, list(then(of(typ("a")), api.CombBelow, pseudo(name)), of(pseudo(name))))
			checkRead(t, "::"+s+",b", list(of(pseudo(name)), of(typ("b"))))
			checkRead(t, "::"+s+" \n/**/ ", list(of(pseudo(name))))
			old := strings.Contains(" before after first-line first-letter ", " "+name+" ")
			if old {
				checkRead(t, ":"+s+",a:"+s+" ", list(of(pseudo(name)), of(typ("a"), pseudo(name))))
			} else if got, err := parse.Selectors([]byte(":"+s), prefixes); got != nil || err == nil {
				t.Errorf("%s: %v, %v", s, got, err)
			}
		}
	}
}

// P9.1: the end is the first TokEnd, or stands behind the last token.
func TestEnds(t *testing.T) {
	a := api.Token{Kind: api.TokIdent, From: 7, To: 9, Text: "a"}
	end := api.Token{Kind: api.TokEnd, From: 42, To: 42}
	comma := api.Token{Kind: api.TokComma, From: 11, To: 13}
	bad := api.Token{Kind: api.TokDelim, From: 99, To: 100, Text: "!"}
	for i, x := range []struct {
		in   []api.Token
		kind api.Errno
		at   int
	}{
		{nil, api.ErrForm, 0}, {[]api.Token{}, api.ErrForm, 0}, {[]api.Token{end}, api.ErrForm, 42}, {[]api.Token{end, a}, api.ErrForm, 42}, {[]api.Token{{}}, api.ErrForm, 0}, {[]api.Token{a}, 0, 0}, {[]api.Token{a, end}, 0, 0}, {[]api.Token{a, end, bad}, 0, 0}, {[]api.Token{a, comma}, api.ErrForm, 13}, {[]api.Token{a, comma, end}, api.ErrForm, 42}, {[]api.Token{a, comma, end, a}, api.ErrForm, 42}, {[]api.Token{a, comma, {}, end}, api.ErrForm, 0}, {[]api.Token{a, bad, end}, api.ErrForm, 99}, {[]api.Token{a, comma, a}, 0, 0},
	} {
		got, err := parse.Tokens(x.in, api.Names{})
		if !isFault(err, x.kind, x.at) || (err == nil) != (len(got) > 0) {
			t.Errorf("%d: %v, %v", i, got, err)
		}
	}
}

// P9.1: what stands behind the first TokEnd isn't looked at, wherever that is met.
func TestBehindTheEnd(t *testing.T) {
	for _, ahead := range []string{"", "a,", "a >", "a > ", ".", ":", "::", "[", "[a", "[a ", "[a=", "[a~", "[a=b", "[a=b ", "[a=b i", ":is(", ":is(a", ":is(a ", ":is(a,", ":nth-child(", ":nth-child( ", ":nth-child(n", ":nth-child(n ", ":nth-child(2", ":nth-child(n of", ":nth-child(n of a", "a:nth-of-type(n", "a:nth-of-type(", ":lang(", ":lang(a", ":lang([", ":has(a(", "::before,", ":empty,"} {
		for _, behind := range []string{"", "a", "a)", ".b", "]", "=b]", " = b ]", "i]", "+1)", " + 1 of a)", "-1)", "of a)", "n)", "before", ")", "])", "|a", ", a"} {
			tokens := token.Read([]byte(ahead))
			tokens[len(tokens)-1].From = 1234
			tokens = append(tokens, token.Read([]byte(behind))...)
			if got, err := parse.Tokens(tokens, prefixes); got != nil || !isFault(err, api.ErrForm, 1234) {
				t.Errorf("%q, and %q: %v, %#v", ahead, behind, got, err)
			}
		}
	}
}

// P9.2: Known tells the chapter's names, by great and small letters, and no others.
func TestKnown(t *testing.T) {
	type answer struct{ known, supported bool }
	classes, functions := map[string]answer{}, map[string]answer{}
	for _, name := range strings.Fields("root any-link first-child first-of-type hover active focus focus-visible visited link checked disabled enabled target") {
		classes[name] = answer{true, true}
	}
	for _, name := range strings.Fields("last-child only-child last-of-type only-of-type empty scope") {
		classes[name] = answer{true, false}
	}
	for _, name := range strings.Fields("is where not nth-child nth-of-type") {
		functions[name] = answer{true, true}
	}
	for _, name := range strings.Fields("lang dir has nth-last-child nth-last-of-type") {
		functions[name] = answer{true, false}
	}
	others := strings.Fields("before after first-line first-letter marker selection placeholder backdrop any matches host nth-last-col focus-within \xff hover\x00 \u212a lin\u212a hoverı root( :root rootx xroot -root")
	all := append(others, "", " ", "root ", " root")
	for name := range classes {
		all = append(all, name, name+"(", name[1:])
	}
	for name := range functions {
		all = append(all, name, name+"(", name[1:])
	}
	for _, name := range all {
		for _, s := range []string{name, strings.ToUpper(name), chars.Lower(name)} {
			lower := chars.Lower(s)
			for function, want := range map[bool]answer{false: classes[lower], true: functions[lower]} {
				if known, supported := parse.Known(s, function); (answer{known, supported}) != want {
					t.Errorf("%q, %t: %t, %t", s, function, known, supported)
				}
			}
		}
	}
}
