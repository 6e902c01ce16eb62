package parse_test

import (
	"cmp"
	"math"
	"runtime"
	"slices"
	"strings"
	"testing"
	"unsafe"

	"wattle/api"
	"wattle/parse"
	"wattle/sel"
	"wattle/token"
)

// samples have all kinds of simple selectors, and one has of each kind of error.
func samples() []string {
	return []string{
		"a", "p|a > *|b + |c ~ *, .d #e::before", "[a][p|b=c][*|d~='e' i][f*=g s]", ":root:any-link:hover:first-child", "p|a:first-of-type:nth-of-type(2n+1):first-of-type, b:nth-of-type(even)", ":is(a, .b):where(#c > d):not([e='f'], :is(g))", ":nth-child(2n+1 of a, .b > c):nth-child(3)", "a,b,c,d,e,f,g,h,i", "a b c d e f g h i", ".a.b.c.d.e.f.g.h.i", ":Before", "A:Hover::AFTER",
		"", "a,", "q|a", ":nth-child(1000001)", ":empty", ":lang([{(", ":lang([a])", nested(40, "a", ":is("),
	}
}

// answer is what a call answers, an error by its kind and place.
type answer struct {
	list []api.Complex
	kind api.Errno
	at   int
}

func answerOf(got []api.Complex, err error) answer {
	f, _ := err.(*api.Fault)
	if f == nil {
		return answer{list: got}
	}
	return answer{got, f.Kind, f.At}
}

func (a answer) same(b answer) bool {
	return a.kind == b.kind && a.at == b.at && sel.Same(a.list, b.list)
}

// roomy gives tokens whose texts are of bytes that may be written over, with further tokens in the spare room.
func roomy(s string) (whole, tokens []api.Token, texts [][]byte) {
	fresh := func(s string) string {
		if s == "" {
			return ""
		}
		b := []byte(s)
		texts = append(texts, b)
		return unsafe.String(&b[0], len(b))
	}
	for _, t := range token.Read([]byte(s)) {
		t.Text, t.Number = fresh(t.Text), fresh(t.Number)
		whole = append(whole, t)
	}
	size := len(whole) - 1
	whole = append(whole[:size], token.Read([]byte(",x.y"))...)
	return whole, whole[:size], texts
}

// P9.3: tokens that are handed in stay, with what is behind them; that isn't looked at, and nothing of them is kept.
func TestTokensStay(t *testing.T) {
	for _, s := range samples() {
		whole, in, texts := roomy(s)
		before := slices.Clone(whole)
		plain := token.Read([]byte(s))
		want := answerOf(parse.Tokens(plain[:len(plain)-1], prefixes))
		names := api.Names{Prefixes: append([]string{"p", "Ö x"}, "q")[:2], Spaces: append([]string{"u", ""}, "\xff")[:2]}
		one, two := answerOf(parse.Tokens(in, names)), answerOf(parse.Tokens(in, names))
		if !one.same(want) || !two.same(want) {
			t.Errorf("%q: %v, %v, not %v", s, one, two, want)
		}
		if !slices.Equal(whole, before) || !slices.Equal(names.Prefixes[:3], []string{"p", "Ö x", "q"}) || !slices.Equal(names.Spaces[:3], []string{"u", "", "\xff"}) {
			t.Errorf("%q: an argument was changed", s)
		}
		for _, text := range texts {
			overwrite(text, '#')
		}
		overwrite(whole, api.Token{Kind: -1})
		overwrite(names.Prefixes, "#")
		overwrite(names.Spaces, "#")
		if !one.same(want) {
			t.Errorf("%q: an argument is kept", s)
		}
		fill(one.list)
		if !two.same(want) {
			t.Errorf("%q: two answers share memory", s)
		}
	}
}

// P9.3: the same of bytes, and of a prefix that stands in bytes that are written over.
func TestBytesStay(t *testing.T) {
	for _, s := range samples() {
		whole := []byte(s + ",x.y")
		in, before := whole[:len(s)], slices.Clone(whole)
		prefix := []byte("p")
		names := api.Names{Prefixes: []string{unsafe.String(&prefix[0], 1), "Ö x"}, Spaces: []string{"u", ""}}
		want := answerOf(parse.Selectors([]byte(s), prefixes))
		got := answerOf(parse.Selectors(in, names))
		if !slices.Equal(whole, before) || string(prefix) != "p" {
			t.Errorf("%q: an argument was changed", s)
		}
		overwrite(whole, '#')
		overwrite(prefix, '#')
		if !got.same(want) {
			t.Errorf("%q: %v, not %v", s, got, want)
		}
	}
}

func overwrite[T any](list []T, x T) {
	list = list[:cap(list)]
	for i := range list {
		list[i] = x
	}
}

// fill writes over all lists of a list, with their spare room.
func fill(some []api.Complex) {
	for _, c := range some {
		for _, part := range c.List {
			for _, s := range part.List {
				fill(s.Of)
			}
			overwrite(part.List, simple{Kind: 77})
		}
		overwrite(c.List, api.Compound{Comb: 77})
	}
	overwrite(some, api.Complex{})
}

// room is where a list stands, with its spare room.
type room struct{ from, to uintptr }

func roomOf[T any](list []T) room {
	from := uintptr(unsafe.Pointer(unsafe.SliceData(list)))
	return room{from, from + uintptr(cap(list))*unsafe.Sizeof(*new(T))}
}

// rooms tells where a list stands, and all lists within it.
func rooms(some []api.Complex) []room {
	out := []room{roomOf(some)}
	for _, c := range some {
		out = append(out, roomOf(c.List))
		for _, part := range c.List {
			out = append(out, roomOf(part.List))
			for _, s := range part.List {
				out = append(out, rooms(s.Of)...)
			}
		}
	}
	return slices.DeleteFunc(out, func(r room) bool { return r.from == r.to })
}

// P9.3: no two lists of answers share memory.
func TestListsAreApart(t *testing.T) {
	for _, s := range samples() {
		one, _ := parse.Selectors([]byte(s), prefixes)
		two, _ := parse.Selectors([]byte(s), prefixes)
		all := slices.Concat(rooms(one), rooms(two))
		slices.SortFunc(all, func(a, b room) int { return cmp.Compare(a.from, b.from) })
		for k := 1; k < len(all); k++ {
			if all[k].from < all[k-1].to {
				t.Errorf("%q: two lists share memory", s)
			}
		}
		runtime.KeepAlive([][]api.Complex{one, two}) // what nobody has any more may give its place to others
	}
}

// P1, P2: tokens that layer 3 doesn't give end, without a panic, twice in the same way; what is told of them is a list, or an error at a place that a token has.
func TestWildTokens(t *testing.T) {
	seed := uint64(1)
	pick := func(n int) int {
		seed = seed*6364136223846793005 + 1442695040888963407
		return int(seed>>33) % n
	}
	texts := []string{"", "a", "*", "|", ".", "=", "~", ">", "is", "nth-child", "nth-of-type", "lang", "first-of-type", "Before", "of", "n", "i", "p", "\xff", "\x00", "hover", "empty"}
	numbers := []string{"", "2", "-1", "+", "\xff", "1e9", "99999999999999999999"}
	places := []int{0, 1, -1, 7, math.MinInt, math.MaxInt}
	kinds := []int{api.TokIdent, api.TokIdent, api.TokIdent, api.TokDelim, api.TokDelim, api.TokFunction, api.TokFunction, api.TokClose, api.TokColon, api.TokColon, api.TokSpace, api.TokComma, api.TokHash, api.TokOpenSquare, api.TokCloseSquare, api.TokNumber, api.TokDimension, api.TokString}
	for range 100000 {
		in := make([]api.Token, pick(12))
		some := []int{0}
		for i := range in {
			in[i] = api.Token{Kind: kinds[pick(len(kinds))], From: places[pick(6)], To: places[pick(6)], Text: texts[pick(len(texts))], Number: numbers[pick(7)], Whole: pick(2) == 0}
			if pick(20) == 0 {
				in[i].Kind = []int{-1, 99, math.MinInt, api.TokEnd, api.TokBadString, api.TokBadURL, api.TokOpen, api.TokOpenCurly, api.TokCloseCurly}[pick(9)]
			}
			some = append(some, in[i].From, in[i].To)
		}
		one, two := answerOf(parse.Tokens(in, prefixes)), answerOf(parse.Tokens(slices.Clone(in), prefixes))
		if !one.same(two) || (one.kind == 0) != (len(one.list) > 0) || !slices.Contains(some, one.at) {
			t.Fatalf("%v: %v, %v", in, one, two)
		}
	}
}

// P1: great texts end in time, however much of one thing there is, or stands in one another.
func TestGreatTexts(t *testing.T) {
	const most = 1 << 17
	for s, kind := range map[string]api.Errno{
		"a,": api.ErrForm, "a ": 0, "a>": api.ErrForm, ".a": 0, "#a": 0, "[a]": 0, "[a=": api.ErrForm, ":is(": api.ErrDeep, ":is(a)": 0, ":hover": 0, ":empty": api.ErrUnsupported, "a:first-of-type ": 0, "p|a ": 0, ":lang(": api.ErrForm, ":lang(a)": api.ErrUnsupported, ":": api.ErrForm, " ": api.ErrForm, "/**/": api.ErrForm, "(": api.ErrForm, ":nth-child(": api.ErrForm, ":nth-child(n)": 0, ":nth-child(n of ": api.ErrDeep, "|": api.ErrForm, "*": api.ErrForm, "a:nth-of-type(2n + 1) ": 0,
	} {
		got := answerOf(parse.Selectors([]byte(strings.Repeat(s, most/len(s))), prefixes))
		if got.kind != kind || (kind == 0) != (len(got.list) > 0) {
			t.Errorf("%q: %d at %d", s, got.kind, got.at)
		}
	}
	for _, s := range []string{"(", "[", "{", "a(", "([{a("} {
		closers := strings.NewReplacer("a(", ")", "(", ")", "[", "]", "{", "}").Replace(s)
		b := []byte(closers)
		slices.Reverse(b)
		text := ":lang(" + strings.Repeat(s, most) + strings.Repeat(string(b), most)
		if got := answerOf(parse.Selectors([]byte(text+")"), prefixes)); got.kind != api.ErrUnsupported || got.at != 0 {
			t.Errorf("%q: %d at %d", s, got.kind, got.at)
		}
		if got := answerOf(parse.Selectors([]byte(text), prefixes)); got.kind != api.ErrForm || got.at != len(text) {
			t.Errorf("%q: %d at %d", s, got.kind, got.at)
		}
	}
	blanks := answerOf(parse.Selectors([]byte("a"+strings.Repeat(" ", most)+"b"+strings.Repeat("\n", most)+":nth-child("+strings.Repeat(" ", most)+"n"+strings.Repeat(" ", most)+"of a)"), prefixes))
	if blanks.kind != 0 || len(blanks.list) != 1 || len(blanks.list[0].List) != 3 {
		t.Errorf("%v", blanks)
	}
}
