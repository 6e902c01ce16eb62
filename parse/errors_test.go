package parse_test

import (
	"strings"
	"testing"

	"wattle/api"
	"wattle/parse"
	"wattle/token"
)

// mark stands in a table's text ahead of the token that an error is met at, and isn't of it.
const mark = "§"

// checkFaults holds the errors that are met in texts, with their end's token and without, against a kind.
func checkFaults(t *testing.T, kind api.Errno, texts ...string) {
	t.Helper()
	for _, s := range texts {
		ahead, behind, ok := strings.Cut(s, mark)
		if !ok || strings.Contains(behind, mark) {
			t.Fatalf("%q: no place", s)
		}
		in := []byte(ahead + behind)
		at := len([]rune(ahead))
		if got, err := parse.Selectors(in, prefixes); got != nil || !isFault(err, kind, at) {
			t.Errorf("%q: %v, %#v", s, got, err)
		}
		tokens := token.Read(in)
		last := len(tokens) - 1
		if tokens[last].From == at {
			at = 0
			if last > 0 {
				at = tokens[last-1].To
			}
		}
		if got, err := parse.Tokens(tokens[:last], prefixes); got != nil || !isFault(err, kind, at) {
			t.Errorf("%q without its end: %v, %#v", s, got, err)
		}
	}
}

// P9.1: what can't stand in lists, selectors and combinators.
func TestWrongInLists(t *testing.T) {
	checkFaults(t, api.ErrForm,
		"§", " §", "/**/ §", "§,", " §,a", "a,§", "a, §", "a,§,b", "a , §, b", "§)", "§;", "§{}", "§1", "§'a'", "§%", "§!", "§&", "§@a", "§a(", "§-->", "§<!--", "§\\\n", "§url(a)", "§url(a b)", "§'a\n", "§=", "§+1",
		"§>a", "§+a", " §~ a", "a>§", "a > §", "a §b(c)", "a >§>b", "a > §> b", "a ~§=b", "a>§,b", "a + §, b", "a > §)", "a >§1", "a >§'b'", "a >§=b", "a~§~b", "a+§+b", "a > b §c(",
		"a§)", "a §)", "a §;", "a§{", "a §{}", "a§}", "a§]", "a§'b'", "a §'b'", "a §1", "a§+1", "a §+1 b", "a§%", "a§<!--", "a §-->", "a §url(b)", "a§\\\n", "a§!b", "a§&", "a§=b", "a §=b", "a§^b", "a,b,§",
		"a/**/§b", "a/**/§b c", "a§*", "*§*", "*/**/§a", ".b/**/§a", ".b§*", "[b]§a", "[b]§*", "[b]§|a", ":root§*", ":is(a)§b", ":is(a)§*", "a#b§*", "a.b/**/§c", ":hover/**/§a",
		"§#1", "a§#1", "a §#1", "§#", "a§# b", "§#-", "§#-1", "a > §#1", "§#/**/a", ".§", "a.§", "a.§ b", ".§.b", "a.§.b", ".§#b", ".§*", ".§'b'", ".§b(c)", "./**/§1", "§.1", "a§.1", ".§|b", ".§:b", ".§[b]", ".§,a", ".§)", ".§>a", ".§-", ".§@a", ".§url(a)", ".§é(a)",
	)
}

// P9.1: what can't stand in names with prefixes, and a | that is none's.
func TestWrongPrefixes(t *testing.T) {
	checkFaults(t, api.ErrForm,
		"§|", "§| a", "§||a", "§|.a", "§|,", "§|1", "§|a(b)", "a§|", "a§| b", "a§|.b", "a§||b", "a§|,b", "a§|#b", "a§|1", "a§|b(c)", "a§|'b'", "a§|=b", "a§|[b]", "a§|:root", "a§|>b", "a §||b", "a §|| b",
		"q§|", "q§|.a", "q§| a", "q§|1", "*§|", "*§| a", "*§||a", "*§|.a", "*§|=a", "p|a§|b", "p|a§|", "p|*§|a", "*|*§|*", "|a§|b", "a.b§|c", "a b§|", "a >§|", "a>§|>b", "p|a§*", "p|*/**/§a", "p|*§*", "p §| a", ".a §| b", "a ,§|", ":is(a§|)", ":is(§|)", "#a§|b", "[a]§|b", ":root§|a",
		// In brackets just a name has one.
		"[§|", "[§|]", "[§| a]", "[§|=a]", "[§||a]", "[§|*]", "[ §|'a']", "[*§|]", "[*§|*]", "[*§|=a]", "[*§| a]", "[*§||a]", "[*§|", "[*§", "[*§]", "[*§ |a]", "[*/**/§a]", "[*§=a]", "[*§*|a]", "[ *§ ]", "[*§.a]",
		"[a§|", "[a§|]", "[a§| b]", "[a§|*]", "[a§||b]", "[a§|'b']", "[a§|1]", "[a§|b(c)]", "[q§|]", "[q§|*]", "[p§|]", "[p§|*=a]", "[p§| a]", "[a |§]", "[a |§b]", "[a |§ =b]", "[a |§", "[p|a|§b]", "[p|a|§]", "[p|a §p|b]", "[p|a|§|b]",
	)
	checkFaults(t, api.ErrPrefix,
		"§q|a", "§q|*", "§P|a", "a §q|b", "a>§q|b", "a,§q|*", "§q|a.", "§q|a||", "§q|a,", "§q/**/|a", "p|a §q|b", ":is(§q|a", ":not(a, §q|a)", ":nth-child(n of §q|*)", "[§q|a]", "[ §q|a=b]", "[§P|a", "[§q|a|=b]", "[§q|a.", ":empty §q|a", ":has(q|a) §q|a", "§x|a.", "§Ö|a", "§\u00d6x|a", "§\\70 \\70|a", "§p-|a",
	)
}

// P9.1: what can't stand in brackets.
func TestWrongInBrackets(t *testing.T) {
	checkFaults(t, api.ErrForm,
		"[§", "[ §", "[§]", "[ §]", "[§'a']", "[§1]", "[§=a]", "[§.a]", "[§,", "[§a(]", "[§:a]", "[§#a]", "[§[a]]", "[§>a]", "[a§", "[a §", "[a/**/§b]", "[a §b]", "[a§,b]", "[a§'b']", "[a §i]", "[a§)", "[a§;]", "[a§.b]", "[a§#b]", "[a§>b]", "[a§+=b]", "[a §(]", "[a§:b]", "[a§[b]", "[a§!=b]", "[a§<=b]", "[a/**/§1]",
		"[a=§", "[a=§]", "[a= §]", "[a=§=b]", "[a=§1]", "[a=§#b]", "[a=§*]", "[a=§b(]", "[a=§url(b)]", "[a=§'b\n']", "[a=§,b]", "[a=§[b]]", "[a=§-1]", "[a=§.b]", "[a=§|b]", "[a=§@b]", "[a=§2n]",
		"[a~§b]", "[a~§", "[a~§ =b]", "[a~§~=b]", "[a ~§ =b]", "[a^§]", "[a$§b=c]", "[a*§*=b]", "[a*§]", "[a*§ =b]", "[a^§^=b]", "[a$§", "[a~§]", "[a~§'b']", "[a*§|=b]", "[a ^§b]",
		"[a=b§", "[a=b §", "[a=b§,c]", "[a='b'§'c']", "[a=b §x]", "[a=b/**/§x]", "[a='b'§x]", "[a='b' §ii]", "[a='b' §'i']", "[a='b' §i(]", "[a=b §1]", "[a=b §=c]", "[a=b§|c]", "[a=b i§", "[a=b i §", "[a=b i §i]", "[a=b s/**/§i]", "[a=b i§,]", "[a=b i §'c']", "[a=b§)", "[a=b §.i]", "[a=b i§|", "[a=b §is]", "[a=b §ı]", "[a=b §\u017f]", "[a~='b' §m]", "[a=b §é]", "[a='b']§]", "[a=b i]§]",
	)
}

// P9.1: what can't stand behind colons, and names that are none's.
func TestWrongPseudo(t *testing.T) {
	checkFaults(t, api.ErrForm,
		":§", ":§ root", ":§*", ":§.a", ":§#a", ":§'root'", ":§1", ":§)", ":§,", ":§[a]", ":§|a", "a:§", ":root:§", ":§(", ":§url(a)", ":§-1", ":§@a", ":§>a",
		":§x", "a:§x", ":§roo", ":§rootx", ":§is", ":§nth-child", ":§nth-of-type", ":§lang", ":§has", ":§matches", ":§host", ":§é", ":§hovер", ":§not", ":§where",
		":§x()", ":§x(", ":§hover()", ":§hover(", ":§root(a)", ":§empty()", ":§last-child(", ":§first-child(2)", ":§matches(a)", ":§before()", ":§before(", ":§marker(a)", ":§before(a)", ":§first-of-type()", ":§any-link(a)",
		":§marker", ":§selection", ":§placeholder", ":§backdrop",
		"::§", "::§ before", "::§x", "::§hover", "::§root", "::§is(a)", "::§before(", "::§before()", "::§:before", "::§*", "::§1", "::§,", "::§)", "::§empty", "::§lang(a)", "::§part(a)", "::§'before'", "::§.a", "::§-moz-x", "::§link", "::§beforex",
		"::before§.a", "::before§#a", "::before§[a]", "::before§:hover", "::before§:root", "::before§::after", "::before§:after", ":after§:hover", "::before §a", "::before §.a", "::before §*", "::before§*", "::before§>a", "::before §> a", "::before §+a", "::before §~ a", "::before §::after", "a::before §:hover", "::before/**/§a", "::before §)", "::before§)", "::before§;", "::before §|a", "::marker §1", ":first-line §b", "a, b::before §c", "::before ,§", "::before,§,", "a > ::before §> b", "::before§=", "::before§]", "::before §[a]", "::before§:x", "::before§:empty",
		":is(::§before)", ":is(:§before)", ":not(a::§after)", ":where(a, b::§marker)", ":is(:not(::§before))", ":nth-child(2n of ::§before)", ":is(::§before", ":is(:§first-line.a)", ":is(::§x)", ":is(:§marker)", ":is(::§", ":not(a ::§Before )", ":is(::§is(a))", ":is(a), :is(:§after)", "::before, :is(::§before)", ":is(a) :where(b:§first-letter)",
	)
}

// P9.1: what can't stand in functions.
func TestWrongInFunctions(t *testing.T) {
	checkFaults(t, api.ErrForm,
		":is(§", ":is( §", ":is(§)", ":is( §)", ":is(/**/ §)", ":where(§)", ":not(§)", ":not( §)", ":is(§,a)", ":is(a,§)", ":is(a, §)", ":is(a,§,b)", ":is(a§", ":is(a §", ":is(a,§", ":is(a > §", ":is(a >§)", ":is(§> a)", ":not(§+ a)", ":is(a§]", ":is(a §]", ":is(a §;)", ":is(a§{)", ":is(§1)", ":is(§#1)", ":is(.§)", ":is(:§)", ":is(:§x)", ":is([a§)", ":is(:is(§))", ":is(:is(a)§", ":is(a)§)", ":is(a §b(c))", ":is(a§*)", ":is(§(a))", ":not(a§", ":where(a§", ":is(:not(:where(a))§",
		":nth-child(§", ":nth-child( §", ":nth-child(§)", ":nth-child( §)", ":nth-child(/**/ \n§)", ":nth-child(§x)", ":nth-child( §x)", ":nth-child(§of a)", ":nth-child(§5of a)", ":nth-child(§2nof a)", ":nth-child(§1.5)", ":nth-child(§+ 5)", ":nth-child(§n-)", ":nth-child( §n- of a)", ":nth-child(§-)", ":nth-child(§'n')", ":nth-child(§- n)", ":nth-child(§, n)", ":nth-child(§n()", ":nth-child(§evenof a)", ":nth-child(§.5)", ":nth-child(§99999999999999999999.5)", ":nth-child(§1e3)",
		":nth-of-type(§", ":nth-of-type(§)", "a:nth-of-type( §x)", "*:nth-of-type(§x)", "a:nth-of-type( §)", "a:nth-of-type(§of a)", "a:nth-of-type(§n-)",
		":nth-child(2n§", ":nth-child(2n §", ":nth-child(2n§,3n)", ":nth-child(2n §x)", ":nth-child(2n+1/**/§x)", ":nth-child(2n §ofa)", ":nth-child(2n §of(a))", ":nth-child(2n §'of' a)", ":nth-child(2n §#of a)", ":nth-child(n §+)", ":nth-child(n §+ of a)", ":nth-child(n §- -1)", ":nth-child(5 §n)", ":nth-child(n§+1of a)", ":nth-child(2n §2n)", ":nth-child(2n §.a)", ":nth-child(2n §])", ":nth-child(2n §o)", ":nth-child(2n §@of a)",
		":nth-child(2n of§", ":nth-child(2n of §", ":nth-child(2n of§)", ":nth-child(2n of §)", ":nth-child(2n of§,a)", ":nth-child(2n of a§", ":nth-child(2n of a, §)", ":nth-child(2n of a §;)", ":nth-child(2n of §> a)", ":nth-child(2n of a)§)", ":nth-child(2n of a§]", ":nth-child(2n of :§x)", ":nth-child(2n of a§|)",
		"a:nth-of-type(2n§", "a:nth-of-type(2n §of a)", "a:nth-of-type(2n §x)", "a:nth-of-type(2n§,", "*:nth-of-type(2n §of a)", ":nth-of-type(2n §x)", ":nth-of-type(2n§", "a:nth-of-type(n§+1x)",
	)
	checkFaults(t, api.ErrOver,
		":nth-child(§1000001)", ":nth-child( \n§1000001)", ":nth-child(§-1000001)", ":nth-child(§+1000001)", ":nth-child(§1000001n)", ":nth-child(§-1000001n)", ":nth-child(§n+1000001)", ":nth-child( §n - 1000001)", ":nth-child(§n-1000001)", ":nth-child(§2n- 1000001 of a)", ":nth-child(§1000001n+1000001)", ":nth-child(§1000001n of )", ":nth-child(§1000001 x)", ":nth-child(§1000001", ":nth-child(/**/§+n+1000001)",
		":nth-child(§2147483647)", ":nth-child(§2147483648)", ":nth-child( §-2147483648n)", ":nth-child(§n+99999999999999999999)", ":nth-child( §99999999999999999999n - 1 of)", ":nth-child(§2147483648", ":nth-child(§9223372036854775808n-9223372036854775808)", ":nth-child(§18446744073709551617)",
		"a:nth-of-type(§1000001)", "*:nth-of-type( §1000001n)", "a:nth-of-type(§n-2147483648)", ":nth-of-type(§-1000001 x", ":is(:nth-child( §1000001), .", ":empty:nth-child(§1000001)", ":nth-child(n of a:nth-of-type(§1000001))",
	)
}

// P9.1: what isn't supported is read all the same; another error is told instead, wherever it is.
func TestWrongWhereNotSupported(t *testing.T) {
	checkFaults(t, api.ErrForm,
		":empty§*", ":empty §)", ":empty,§", ":empty >§", "a:last-child.§", ":scope > §> a", ":has(> a):§x", ":has(a)/**/§b", "*:first-of-type§*", ":nth-of-type(1)§*", ":lang(a)§)", ":lang(a),§", ":is(:empty§", ":is(:empty §;)", ":not(:has(a)§", ":empty::§x", ":§only-child(", ":empty §;",
		":lang(§", ":lang(§)", ":lang( §)", ":lang(/**/ \n§)", ":lang(a§", ":lang( a §", ":lang(§'a\n')", ":lang(a §'b\n)", ":lang(§url(a b))", ":lang(a(§'b\n'))", ":lang(a, §url(())", ":dir(§)", ":has(§)", ":nth-last-child(§)", ":nth-last-of-type( §)", ":lang((a)§", ":lang((a§", ":lang(([)])§", ":lang([a)§", ":lang([(])§", ":lang({]}§", ":lang(a()§", ":lang(a(b§", ":lang({)§", ":lang(()§", ":lang(([{a(§", ":is(:lang(§))", ":is(:lang(a)§", ":lang({[}])}§", ":lang([{]})§", ":lang(a)/**/§b",
	)
	checkFaults(t, api.ErrUnsupported,
		"§:last-child", "§:only-child", "§:last-of-type", "§:only-of-type", "§:empty", "§:scope", "a§:last-child", "a §:EMPTY", "a.b§:Scope", "a, §:empty", "a,b > §:only-child ~ c", "§:empty:last-child", "a:hover§:empty", "§:/**/scope", "a§:last-of-type", "§:empty::before", "§:empty, ::before", ":is(§:empty)", ":is(a, b§:scope):last-child", ":nth-child(2n of §:empty)", "§:empty:is(:scope)", ":is(a):not(b)§:scope", ":is(a, :where(§:scope))", "/**/ §:scope ",
		"§:lang(en)", "§:dir(ltr)", "§:has(> a)", "§:nth-last-child(2n)", "§:nth-last-of-type(n)", "§:LANG(a)", "§:Has(a)", "§:lang(a, 'b' )", "§:lang(1)", "§:lang(;)", "§:lang(])", "§:lang(}a{})", "§:lang(a]b}c)", "§:lang((a)[b]{c}d(e))", "§:lang([)])", "§:lang({)]})", "§:lang((]}))", "§:lang(a(]))", "§:lang([({(a)})])", "§:lang(())", "§:lang([])", "§:lang({})", "§:lang(a())", "§:lang(-->)", "§:lang(url(a))", "§:lang( . )", "§:lang(::before)", "§:lang(:x)", "§:lang(@a)", "§:lang(!)", "§:lang(1%)", "§:lang(,)", "§:has(q|a)", "§:lang(/**/a/**/)", "a§:has(b) c", ":is(§:has(a))", "§:has(:is()):empty", "§:has(:is(a), [b=c])::before", "§:nth-last-child(1000001)", "§:dir(#1)", "§:lang(<!--)", "§:lang(|)",
		"§:first-of-type", "*§:first-of-type", ".a§:first-of-type", "#a§:first-of-type", "[a]§:first-of-type", ":root§:first-of-type", ":is(a)§:first-of-type", "p|*§:first-of-type", "*|*§:first-of-type", "|*§:first-of-type", "a §:first-of-type", "a > *§:first-of-type", "a, §:first-of-type", "§:empty:first-of-type", "§:first-of-type:empty", "a *§:First-Of-Type", "a:is(§:first-of-type)", "a:first-of-type :is(b:first-of-type, §:first-of-type)",
		"§:nth-of-type(2)", "*§:nth-of-type(2)", "*§:nth-of-type( 2n + 1 )", ".a§:NTH-of-type(odd)", "a §:nth-of-type(n)", "*|*§:nth-of-type(2n):empty", "a:nth-of-type(2):is(§:nth-of-type(2))", "§:nth-of-type(1):hover", "[a=b]§:nth-of-type(n)",
	)
}

// P9.1: of namespaces that aren't right ErrName is told, whatever the tokens.
func TestWrongNamespaces(t *testing.T) {
	for _, names := range []api.Names{{Prefixes: []string{"p"}}, {Spaces: []string{"u"}}, {Prefixes: []string{"p", "p"}, Spaces: []string{"u", "u"}}, {Prefixes: []string{""}, Spaces: []string{"u"}}, {Prefixes: []string{"p"}, Spaces: []string{"\xff"}}, {Default: "\x00"}} {
		for _, s := range []string{"a", "", "p|a", "q|a", "..", ":empty", ":nth-child(1000001)"} {
			got, err := parse.Selectors([]byte(s), names)
			got2, err2 := parse.Tokens(token.Read([]byte(s)), names)
			if got != nil || got2 != nil || !isFault(err, api.ErrName, 0) || !isFault(err2, api.ErrName, 0) {
				t.Errorf("%v, %q: %v, %v, %v, %v", names, s, got, err, got2, err2)
			}
		}
	}
	for _, s := range []string{"p|a", "[p|a]", "p|*"} {
		if got, err := parse.Selectors([]byte(s), api.Names{HasDefault: true, Default: "p"}); got != nil || !isFault(err, api.ErrPrefix, strings.Index(s, "p")) {
			t.Errorf("%q: %v, %v", s, got, err)
		}
	}
}

// nested puts a text into as many functions, of which each is one of some in turn.
func nested(times int, inner string, functions ...string) string {
	var out strings.Builder
	for i := range times {
		out.WriteString(functions[i%len(functions)])
	}
	return out.String() + inner + strings.Repeat(")", times)
}

// P9.1: just 32 lists may stand in one another, those of functions and those of *of type*; at which token the next one is told, and ahead of what.
func TestDeep(t *testing.T) {
	for _, functions := range [][]string{{":is("}, {":where("}, {":not("}, {":nth-child(2n of "}, {":is(", ":nth-child( 1 of ", ":not(a > b, ", "a:where( "}, {"a:first-of-type, a:is("}} {
		for _, inner := range []string{"a", ".b c", ":nth-child(2n+1)", "*", ":first-child", "[a]"} {
			s := nested(31, inner, functions...)
			if got, err := parse.Selectors([]byte(s), prefixes); err != nil || len(got) == 0 {
				t.Errorf("%q: %v", s, err)
			}
		}
		head, tail, _ := strings.Cut(nested(31, mark, functions...), mark)
		for _, inner := range []string{":§is(a)", ":§where(a)", ":§not(a)", "a, b:§is(c)", ":§is(", ":§is(:is(:is(", ":§is()", ":§is(:x)", ":§IS(::before)", ":empty:§is(a)", ":nth-child(2n):§not(a)", ":§nth-child(2n of a)", ":§nth-child( 2n  of", ":§nth-child(2n of)", ":§nth-child(2n of ::x)", "a:§first-of-type", "p|a:§first-of-type", ".a b.c:§First-of-type", "a:§first-of-type..", "a:§nth-of-type(2n)", "a:§nth-of-type( 2n x", "a:§nth-of-type(2n", "*|a:§nth-of-type(2n of)"} {
			checkFaults(t, api.ErrDeep, head+inner+tail)
		}
		for _, inner := range []string{":nth-child(§x of a)", ":nth-child(2n §x of a)", "a:nth-of-type( §x)", "a:nth-of-type(§", "§)", ".§", ":§x(a)", ":§is", "::§before", "*:nth-of-type(2n §x)"} {
			checkFaults(t, api.ErrForm, head+inner+tail)
		}
		checkFaults(t, api.ErrOver, head+":nth-child(§1000001 of a)"+tail, head+"a:nth-of-type( §1000001)"+tail, head+"a:nth-of-type(§n+2147483648 x"+tail)
		checkFaults(t, api.ErrPrefix, head+"§q|a:first-of-type"+tail)
		checkFaults(t, api.ErrUnsupported, head+"*§:first-of-type"+tail, head+"*§:nth-of-type(2)"+tail, head+"§:has(:is(:is(a)))"+tail, head+"§:empty"+tail)
	}
	// At the depth ahead it is the last one that may.
	head, tail, _ := strings.Cut(nested(30, mark, ":is("), mark)
	for _, inner := range []string{"a:first-of-type", "a:nth-of-type(2)", ":is(a), :is(b):not(c)", ":nth-child(n of a):nth-child(n of b)"} {
		if got, err := parse.Selectors([]byte(head+inner+tail), prefixes); err != nil || len(got) != 1 {
			t.Errorf("%q: %v", inner, err)
		}
	}
	// Lists beside one another aren't in one another, and deeper ones are told at the first function too deep.
	for _, s := range []string{strings.Repeat(":is(a)", 100), strings.Repeat("a:first-of-type ", 100), nested(31, "a", ":is(") + strings.Repeat(":is(b)", 40) + "," + nested(31, "a", ":not(")} {
		if _, err := parse.Selectors([]byte(s), prefixes); err != nil {
			t.Errorf("%q: %v", s, err)
		}
	}
	checkFaults(t, api.ErrDeep, nested(31, ":§is("+nested(100, "..", ":is(")+")", ":is("))
}
