package sheet_test

import (
	"cmp"
	"math"
	"runtime"
	"slices"
	"testing"
	"unsafe"

	"wattle/api"
	"wattle/sheet"
)

// samples have all that style sheets may have.
func samples() []string {
	return []string{
		"", "a{}", "\ufeff@namespace 'd';@namespace p 'u';@namespace q url(v);@namespace r 'w';p|a > b, :is(c){--D:e!important;f:g h;i:j}",
		"@media x{a{b:c}@supports y{d{e:f}@media z{g{h:i}j{}}k{}}l{}}m{}", "@media a{b{}c{}d{}@media e{f{}g{}@media h{i{}j{}}}@media k{l{}m{}}}", ":x{}{}p|a{}b:empty{}", "\xff\x00{\r\n:\f}",
	}
}

func overwrite[T any](list []T, x T) {
	list = list[:cap(list)]
	for i := range list {
		list[i] = x
	}
}

// P20.3: bytes that are handed in stay, with what is behind them; that isn't looked at, and nothing of them is kept.
func TestBytesStay(t *testing.T) {
	for _, s := range samples() {
		whole := []byte(s + "}x{y:z}@media v{}")
		in, before := whole[:len(s)], slices.Clone(whole)
		want, _ := sheet.Read([]byte(s))
		got, err := sheet.Read(in)
		if err != nil || !slices.Equal(whole, before) {
			t.Errorf("%q: %v, or the argument was changed", s, err)
		}
		overwrite(whole, '#')
		if !sheet.Same(got, want) || tell(got) != tell(want) {
			t.Errorf("%q: %v, not %v", s, got, want)
		}
	}
}

// P20.3: the same of tokens, and of their texts.
func TestTokensStay(t *testing.T) {
	for _, s := range append(samples(), "a", "1", "!", "1%", "--a", "a b 'c'#d", " a ") {
		var texts [][]byte
		fresh := func(s string) string {
			if s == "" {
				return ""
			}
			texts = append(texts, []byte(s))
			return unsafe.String(&texts[len(texts)-1][0], len(s))
		}
		var whole []api.Token
		for _, x := range read(s) {
			x.Text, x.Number = fresh(x.Text), fresh(x.Number)
			whole = append(whole, x)
		}
		size := len(whole) - 1
		whole = append(whole[:size], read(" x y")...)
		before := slices.Clone(whole)
		want := textByWords(cut(read(s), 0, size))
		got := sheet.Text(whole[:size], 0, math.MaxInt)
		if got != want || !slices.Equal(whole, before) {
			t.Errorf("%q: %q, not %q, or the argument was changed", s, got, want)
		}
		for _, text := range texts {
			overwrite(text, '#')
		}
		overwrite(whole, api.Token{Kind: -1})
		if got != want {
			t.Errorf("%q: the argument is kept: %q", s, got)
		}
	}
}

// P20.3: style sheets that are held against one another stay.
func TestSheetsStay(t *testing.T) {
	a, b := whole(), whole()
	before := tell(a)
	sheet.Same(a, b)
	b.Styles[0].Decls[0].Text = ""
	after := tell(b)
	if sheet.Same(a, b) || tell(a) != before || tell(b) != after {
		t.Error("an argument was changed")
	}
}

// room is where a list stands, with its spare room.
type room struct{ from, to uintptr }

func roomOf[T any](list []T) room {
	from := uintptr(unsafe.Pointer(unsafe.SliceData(list)))
	return room{from, from + uintptr(cap(list))*unsafe.Sizeof(*new(T))}
}

func roomsOf(some []api.Complex) []room {
	out := []room{roomOf(some)}
	for _, c := range some {
		out = append(out, roomOf(c.List))
		for _, part := range c.List {
			out = append(out, roomOf(part.List))
			for _, s := range part.List {
				out = append(out, roomsOf(s.Of)...)
			}
		}
	}
	return out
}

// rooms tells where all lists of a style sheet stand that have any room.
func rooms(s api.Sheet) []room {
	out := []room{roomOf(s.Names.Prefixes), roomOf(s.Names.Spaces), roomOf(s.Conds), roomOf(s.Styles)}
	for _, x := range s.Styles {
		out = append(out, roomOf(x.Conds), roomOf(x.Decls))
		out = append(out, roomsOf(x.List)...)
	}
	return slices.DeleteFunc(out, func(r room) bool { return r.from == r.to })
}

// P20.3: no two lists of answers share memory.
func TestListsAreApart(t *testing.T) {
	for _, s := range samples() {
		one, _ := sheet.Read([]byte(s))
		two, _ := sheet.Read([]byte(s))
		all := slices.Concat(rooms(one), rooms(two))
		slices.SortFunc(all, func(a, b room) int { return cmp.Compare(a.from, b.from) })
		for k := 1; k < len(all); k++ {
			if all[k].from < all[k-1].to {
				t.Errorf("%q: two lists share memory", s)
			}
		}
		runtime.KeepAlive([]api.Sheet{one, two}) // what nobody has any more may give its place to others
	}
}

// P1, P2: wild bytes end, without a panic, twice in the same way, and as the chapter's words have it.
func TestWildBytes(t *testing.T) {
	const some = "@media x{}a{b:c;}!\\\"'()[]<->/*,|\n\r\x00\xff\xe2:;{}{} "
	pick := picker(3)
	for range 60000 {
		in := make([]byte, pick(40))
		for i := range in {
			in[i] = some[pick(len(some))]
		}
		one, err := sheet.Read(in)
		two, err2 := sheet.Read(slices.Clone(in))
		if err != nil || err2 != nil || tell(one) != tell(two) || tell(one) != tell(sheetByWords(string(in))) {
			t.Fatalf("%q: %v, %v", in, one, err)
		}
	}
}

// P1, P2: tokens that layer 3 doesn't give.
func TestTextOfWildTokens(t *testing.T) {
	pick := picker(4)
	texts := []string{"", "a", `\`, "\xff", "\x00", "1", "-", " "}
	places := []int{0, 0, 0, 1, 2, 5, 30, -1, math.MinInt, math.MaxInt}
	for range 60000 {
		in := make([]api.Token, pick(9))
		for i := range in {
			in[i] = api.Token{Kind: pick(28) - 1, From: places[pick(10)], To: places[pick(10)], Text: texts[pick(8)], Number: texts[pick(8)], Whole: pick(2) == 0}
			if pick(20) == 0 {
				in[i].Kind = places[pick(10)]
			}
		}
		from, to := places[pick(10)], places[pick(10)]
		if got, want := sheet.Text(in, from, to), textByWords(cut(in, from, to)); got != want || got != sheet.Text(slices.Clone(in), from, to) {
			t.Fatalf("%v, %d, %d: %q, not %q", in, from, to, got, want)
		}
	}
}
