package sel_test

import (
	"cmp"
	"math"
	"runtime"
	"slices"
	"testing"
	"unsafe"

	"wattle/api"
	"wattle/sel"
)

// samples have lists of all kinds, some without elements.
func samples() [][]api.Complex {
	shared := list(typ("a"), class("b"))
	return [][]api.Complex{
		nil, {{}}, {of()}, list(typ("a"), class("b")), {of(typ("a"), attr(api.OpIs, "x", api.MarkFold)), row(class("c"), nth(2, 1, shared...), within(api.SelNot, shared...), within(api.SelIs))}, nested(api.SelWhere, 4, of(simple{Kind: api.SelType, NS: api.NSNamed, Prefix: "p", Name: "n"}), row(id("i"), pseudo("before"))),
	}
}

// roomy gives a list all of whose lists have spare room, in which other things stand.
func roomy(some []api.Complex) []api.Complex {
	out := []api.Complex{}
	for _, c := range some {
		var parts []api.Compound
		for _, part := range c.List {
			var simples []simple
			for _, s := range part.List {
				s.Of = roomy(s.Of)
				simples = append(simples, s)
			}
			parts = append(parts, api.Compound{Comb: part.Comb, List: spare(simples, id("spare"), pseudo("after"))})
		}
		out = append(out, api.Complex{List: spare(parts, api.Compound{Comb: 99})})
	}
	return spare(out, of(id("spare")), of(pseudo("after")))
}

func spare[T any](list []T, more ...T) []T {
	return append(slices.Clip(list), more...)[:len(list)]
}

// fill writes over all lists of a list, with their spare room.
func fill(some []api.Complex) {
	for _, c := range some[:cap(some)] {
		for _, part := range c.List[:cap(c.List)] {
			for _, s := range part.List[:cap(part.List)] {
				fill(s.Of)
			}
			overwrite(part.List, simple{Kind: 77, Name: "#"})
		}
		overwrite(c.List, api.Compound{Comb: 77})
	}
	overwrite(some, api.Complex{})
}

func overwrite[T any](list []T, x T) {
	list = list[:cap(list)]
	for i := range list {
		list[i] = x
	}
}

// whole gives a list with all that stands in its spare rooms.
func whole(some []api.Complex) []api.Complex {
	out := slices.Clone(some[:cap(some)])
	for i, c := range out {
		out[i].List = slices.Clone(c.List[:cap(c.List)])
		for k, part := range out[i].List {
			out[i].List[k].List = slices.Clone(part.List[:cap(part.List)])
			for n, s := range out[i].List[k].List {
				out[i].List[k].List[n].Of = whole(s.Of)
			}
		}
	}
	return out
}

// P8.4: what is handed in isn't changed, its spare rooms neither, and these aren't looked at.
func TestArgumentsStay(t *testing.T) {
	for i, some := range samples() {
		in := roomy(some)
		before := whole(in)
		names := api.Names{Prefixes: spare([]string{"p"}, "p", ""), Spaces: spare([]string{"u"}, "\xff")}
		err, err2 := sel.Check(in, names), sel.Check(some, api.Names{Prefixes: []string{"p"}, Spaces: []string{"u"}})
		if (err == nil) != (err2 == nil) || sel.Deep(in) != sel.Deep(some) || sel.Size(in) != sel.Size(some) || !sel.Same(in, some) || !sel.Same(sel.Copy(in), some) {
			t.Errorf("%d: %v, %v", i, err, err2)
		}
		for k, c := range in {
			if sel.Spec(c) != sel.Spec(some[k]) || sel.Pseudo(c) != sel.Pseudo(some[k]) {
				t.Errorf("%d, %d", i, k)
			}
		}
		if !sel.Same(whole(in), before) {
			t.Errorf("%d: the list was changed", i)
		}
		if err := sel.CheckNames(names); err != nil || !slices.Equal(names.Prefixes[:3], []string{"p", "p", ""}) || !slices.Equal(names.Spaces[:2], []string{"u", "\xff"}) {
			t.Error(err, names)
		}
		if space, ok := sel.Space(names, ""); space != "" || ok {
			t.Errorf("%q", space)
		}
		if space, ok := sel.Space(api.Names{Prefixes: []string{"p"}, Spaces: names.Spaces[:0]}, "p"); space != "" || !ok {
			t.Errorf("%q", space)
		}
	}
}

// P8.4: a copy stays when the list, or another copy, is written over, and the list when a copy is.
func TestCopiesAreNew(t *testing.T) {
	for i, some := range samples() {
		in := roomy(some)
		before := whole(in)
		one, two := sel.Copy(in), sel.Copy(in)
		fill(one)
		if !sel.Same(whole(in), before) || !sel.Same(two, some) {
			t.Errorf("%d: the copy isn't new memory", i)
		}
		fill(in)
		if !sel.Same(two, some) {
			t.Errorf("%d: the list is kept", i)
		}
	}
}

// room is where a list stands, with its spare room.
type room struct{ from, to uintptr }

func roomOf[T any](list []T) room {
	from := uintptr(unsafe.Pointer(unsafe.SliceData(list)))
	return room{from, from + uintptr(cap(list))*unsafe.Sizeof(*new(T))}
}

// rooms tells where a list stands, and all lists within it; those without any room stand nowhere.
func rooms(some []api.Complex) []room {
	out := []room{roomOf(some)}
	for _, c := range some {
		out = append(out, roomOf(c.List))
		for _, part := range c.List {
			out = append(out, roomOf(part.List))
			for _, s := range part.List {
				out = append(out, rooms(s.Of)...)
			}
		}
	}
	return slices.DeleteFunc(out, func(r room) bool { return r.from == r.to })
}

// P8.4: no two lists of a copy share memory, though lists of the argument do; nor does one with the argument's, or with another copy's.
func TestCopysListsAreApart(t *testing.T) {
	for i, some := range samples() {
		in, out := roomy(some), sel.Copy(some)
		one, two := sel.Copy(in), sel.Copy(in)
		for _, all := range [][]room{rooms(out), slices.Concat(rooms(in), rooms(one), rooms(two))} {
			slices.SortFunc(all, func(a, b room) int { return cmp.Compare(a.from, b.from) })
			for k := 1; k < len(all); k++ {
				if all[k].from < all[k-1].to {
					t.Errorf("%d: two lists share memory", i)
				}
			}
		}
		runtime.KeepAlive([][]api.Complex{in, out, one, two}) // what nobody has any more may give its place to others
	}
}

// P8.4: texts' bytes stay as they are, and an answer stays when they are written over.
func TestTextsStay(t *testing.T) {
	in := []byte("before")
	text := unsafe.String(&in[0], len(in))
	s := simple{Kind: api.SelPseudo, Prefix: text, Name: text, Cond: api.Cond{Text: text}, Of: list(pseudo(text))}
	names := api.Names{HasDefault: true, Default: text, Prefixes: []string{text}, Spaces: []string{text}}
	copied, name := sel.Copy(list(s)), sel.Pseudo(of(s))
	space, ok := sel.Space(names, "before")
	sel.Check(list(s), names)
	if string(in) != "before" || !ok {
		t.Errorf("%q", in)
	}
	overwrite(in, '#')
	if name != "before" || space != "before" || !sel.Same(copied, list(simple{Kind: api.SelPseudo, Prefix: "before", Name: "before", Cond: api.Cond{Text: "before"}, Of: list(pseudo("before"))})) {
		t.Errorf("%q, %q, %v", name, space, copied)
	}
}

// wild makes lists of numbers and texts that come round, deeper and wider by a seed.
func wild(seed, depth int) []api.Complex {
	numbers := []int{0, 1, 2, 3, 4, 5, 6, 7, 8, 9, 10, 11, 12, 13, 14, -1, math.MinInt, math.MaxInt, 1 << 32, 1000001}
	texts := []string{"", "a", "\x00", "\xff", "hover", "before", "p", "\ufeff", "é"}
	number := func() int { seed = (seed*1103515245 + 12345) & 0x7fffffff; return numbers[seed>>8%len(numbers)] }
	text := func() string { seed = (seed*1103515245 + 12345) & 0x7fffffff; return texts[seed>>8%len(texts)] }
	var out []api.Complex
	for range seed % 4 {
		var c api.Complex
		for range seed >> 3 % 3 {
			part := api.Compound{Comb: number()}
			for range seed >> 5 % 4 {
				s := simple{Kind: number(), NS: number(), Prefix: text(), Name: text(), Cond: api.Cond{Op: number(), Text: text(), Fold: seed&64 == 0}, Mark: number(), AB: api.AB{A: number(), B: number()}}
				if depth > 0 {
					s.Of = wild(seed>>4, depth-1)
				}
				part.List = append(part.List, s)
			}
			c.List = append(c.List, part)
		}
		out = append(out, c)
	}
	return out
}

// P1, P2: wild lists and namespaces end, without a panic, twice in the same way, and as the chapter's words have it.
func TestWild(t *testing.T) {
	for seed := range 30000 {
		some := wild(seed*7919, seed%4)
		again := wild(seed*7919, seed%4)
		names := api.Names{Default: []string{"", "d", "\x00"}[seed%3], Prefixes: []string{"p", "a", "p"}[:seed%4], Spaces: []string{"u", "\xff", ""}[:seed/4%4]}
		err, err2 := sel.Check(some, names), sel.Check(again, names)
		want := api.ErrName
		if sel.CheckNames(names) == nil {
			want = api.ErrForm
			if rightByWords(some, names.Prefixes, false) {
				want = 0
			}
		}
		if !isFault(err, want) || !isFault(err2, want) {
			t.Fatalf("%d: %v, %v", seed, err, err2)
		}
		if !sel.Same(some, again) || sel.Deep(some) != sel.Deep(again) || sel.Size(some) != sel.Size(again) || !sel.Same(sel.Copy(some), again) {
			t.Fatalf("%d: two answers", seed)
		}
		for i, c := range some {
			if sel.Spec(c) != sel.Spec(again[i]) || sel.Pseudo(c) != sel.Pseudo(again[i]) {
				t.Fatalf("%d: two answers", seed)
			}
		}
	}
}
