package blocks_test

import (
	"math"
	"slices"
	"strings"
	"testing"
	"unsafe"

	"wattle/api"
	"wattle/blocks"
)

// samples have rules and declarations of all kinds.
func samples() []string {
	return []string{
		"", " ", "a", "a{b:c}", "@Media x{a{b:c;--D:e!important}}@import f;", "<!-- a{} --> b{", "A:b;--C:d !Important;@m{e:f}g:h;", "a:b", "--a:b", "(a{b[c]d}e)f", "@m", "a:(b;c", " a ",
	}
}

// answers are what all calls answer of a part.
type answers struct {
	top, within []api.Rule
	decls       []api.Decl
	value       int
	from, to    int
}

func answersOf(list []api.Token, from, to int) answers {
	a := answers{top: blocks.Rules(list, from, to, true), within: blocks.Rules(list, from, to, false), decls: blocks.Decls(list, from, to), value: blocks.Value(list, from, to)}
	a.from, a.to = blocks.Trim(list, from, to)
	return a
}

func (a answers) same(b answers) bool {
	return slices.Equal(a.top, b.top) && slices.Equal(a.within, b.within) && slices.Equal(a.decls, b.decls) && a.value == b.value && a.from == b.from && a.to == b.to
}

// roomy gives tokens without the end, whose texts are of bytes that may be written over, with further tokens in the spare room.
func roomy(s string) (whole, list []api.Token, texts [][]byte) {
	for _, t := range read(s) {
		if t.Text != "" {
			b := []byte(t.Text)
			texts = append(texts, b)
			t.Text = unsafe.String(&b[0], len(b))
		}
		whole = append(whole, t)
	}
	size := len(whole) - 1
	whole = append(whole[:size], read(";x{y:z}@n{}")...)
	return whole, whole[:size], texts
}

func overwrite[T any](list []T, x T) {
	list = list[:cap(list)]
	for i := range list {
		list[i] = x
	}
}

// P19.2: what is handed in isn't changed, with its spare room; that isn't looked at, nothing is kept, and answers share no memory.
func TestMemory(t *testing.T) {
	for _, s := range samples() {
		plain := read(s)
		want := answersOf(plain[:len(plain)-1], 0, len(plain)-1)
		whole, in, texts := roomy(s)
		before := slices.Clone(whole)
		one, two := answersOf(in, 0, math.MaxInt), answersOf(in, 0, math.MaxInt)
		if !one.same(want) || !two.same(want) {
			t.Errorf("%q: %v, %v, not %v", s, one, two, want)
		}
		if !slices.Equal(whole, before) {
			t.Errorf("%q: the argument was changed", s)
		}
		for _, text := range texts {
			overwrite(text, '#')
		}
		overwrite(whole, api.Token{Kind: -1})
		if !one.same(want) {
			t.Errorf("%q: the argument is kept", s)
		}
		overwrite(one.top, api.Rule{Name: "#"})
		overwrite(one.within, api.Rule{Name: "#"})
		overwrite(one.decls, api.Decl{Name: "#"})
		if !two.same(want) {
			t.Errorf("%q: two answers share memory", s)
		}
	}
}

// P1, P2: tokens that layer 3 doesn't give end, without a panic, twice in the same way, and as the chapter's words have it where these speak of them.
func TestWildTokens(t *testing.T) {
	seed := uint64(1)
	pick := func(n int) int {
		seed = seed*6364136223846793005 + 1442695040888963407
		return int(seed>>33) % n
	}
	texts := []string{"", "a", "!", "--", "--A", "IMPORTANT", "important", "\xff\x00", "É"}
	kinds := []int{-1, 99, math.MinInt, math.MaxInt, api.TokIdent, api.TokIdent, api.TokDelim, api.TokDelim, api.TokAt, api.TokSpace, api.TokColon, api.TokColon, api.TokSemicolon, api.TokOpenCurly, api.TokCloseCurly, api.TokFunction, api.TokOpen, api.TokClose, api.TokOpenSquare, api.TokCloseSquare, api.TokString, api.TokBadString, api.TokCDO, api.TokCDC}
	places := []int{0, 0, 0, 1, 2, 3, 7, 20, -1, math.MinInt, math.MaxInt}
	for range 100000 {
		in := make([]api.Token, pick(16))
		for i := range in {
			in[i] = api.Token{Kind: kinds[pick(len(kinds))], From: places[pick(len(places))], To: places[pick(len(places))], Text: texts[pick(len(texts))], Number: texts[pick(len(texts))], Whole: pick(2) == 0}
			if pick(40) == 0 {
				in[i].Kind = api.TokEnd
			}
		}
		from, to := places[pick(len(places))], places[pick(len(places))]
		if !answersOf(in, from, to).same(answersOf(slices.Clone(in), from, to)) {
			t.Fatalf("%v: two answers", in)
		}
		if !checkWords(t, "wild", in, from, to) {
			t.Fatalf("%v", in)
		}
	}
}

// P1: great lists end in time, however much of one thing there is, or stands in one another.
func TestGreatLists(t *testing.T) {
	const most = 1 << 18
	for _, s := range []string{" ", ";", "a", "@m", "@m;", "@m{}", "a{}", "a{", "{", "}", "(", ")", "[", "f(", "({[f(", "a:b;", "a:", "a:b!important;", "a:!", "!important", " !important", "a: ", "<!--", "a:(", "@m(", "a:b;@m "} {
		list := read(strings.Repeat(s, most/len(s)))
		a := answersOf(list, 0, len(list))
		if a.value > len(list)-1 || a.to > len(list)-1 {
			t.Errorf("%q: %d, %d", s, a.value, a.to)
		}
	}
	// One value after another, of a list that doesn't end soon.
	list := read(strings.Repeat("a()", most/3))
	for at := 0; at < len(list)-1; {
		next := blocks.Value(list, at, len(list))
		if next != at+2 {
			t.Fatalf("%d: %d", at, next)
		}
		at = next
	}
	// As many in one another as are promised, and more.
	for _, deep := range []int{1 << 16, most} {
		list := read("a" + strings.Repeat("{", deep) + strings.Repeat("}", deep) + "b{}")
		want := []api.Rule{{From: 0, To: 1, HasBlock: true, Open: 2, End: 2 * deep}, {From: 2*deep + 1, To: 2*deep + 2, HasBlock: true, Open: 2*deep + 3, End: 2*deep + 3}}
		if got := blocks.Rules(list, 0, len(list), true); !slices.Equal(got, want) {
			t.Errorf("%d: %s", deep, tellRules(got))
		}
	}
}
