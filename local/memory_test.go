package local_test

import (
	"cmp"
	"math"
	"runtime"
	"slices"
	"testing"
	"unsafe"

	"wattle/api"
	"wattle/dom"
	"wattle/local"
)

func overwrite[T any](list []T, x T) {
	list = list[:cap(list)]
	for i := range list {
		list[i] = x
	}
}

// fill writes over an answer's lists, with their spare room.
func fill(letters []api.Letter) {
	for _, x := range letters {
		overwrite(x.Holds, true)
		overwrite(x.Node.Attrs, api.Attr{Name: "#"})
		overwrite(x.Node.States, "#")
	}
	overwrite(letters, api.Letter{Node: node{Name: "#"}})
}

// written gives atoms of all kinds, with spare room in which others stand, whose texts are of the bytes.
func written() (some []atom, bytes []byte) {
	bytes = []byte("hover")
	s := unsafe.String(&bytes[0], len(bytes))
	return list(typ(s), within(s, typ("")), within(s, typ(s)), state(s), attr(s, is, s), within(s, attr(s, is, s)), attr(s, begin, s[:2]), within(s, alike(attr("t", part, s))), typ("#"), state("link"))[:8], bytes
}

// plain are the atoms that written gives, of other memory.
func plain() []atom {
	const s = "hover"
	return list(typ(s), within(s, typ("")), within(s, typ(s)), state(s), attr(s, is, s), within(s, attr(s, is, s)), attr(s, begin, "ho"), within(s, alike(attr("t", part, s))))
}

// P13.4: what is handed in stays, with its spare room; answers stay when it is written over.
func TestArgumentsStay(t *testing.T) {
	some, bytes := written()
	want, steps, err := local.Letters(plain(), enough)
	got, steps2, err2 := local.Letters(some, enough)
	if err != nil || err2 != nil || steps != steps2 || !same(got, want) || local.Bound(some) != local.Bound(plain()) || local.Check(some) != nil {
		t.Errorf("%d, %v, %v", len(got), err, err2)
	}
	n := in(el("hover", "hover", api.Attr{Space: "hover", Name: "hover", Value: "hover"}, api.Attr{}), "hover", "link")
	n.Attrs, n.States = n.Attrs[:1], n.States[:1]
	for i, a := range some {
		if local.Holds(a, n) != (i != 7) {
			t.Errorf("%d", i)
		}
	}
	if !slices.Equal(some[:10], append(plain(), typ("#"), state("link"))) || string(bytes) != "hover" || n.Attrs[:2][1] != (api.Attr{}) || n.States[:2][1] != "link" {
		t.Error("an argument was changed")
	}
	overwrite(some, atom{})
	overwrite(bytes, '#')
	if !same(got, want) {
		t.Error("an argument is kept")
	}
	runtime.KeepAlive(bytes)
}

// P13.4, P2: the same atoms have the same letters, in the same order; an answer stays when another one is written over.
func TestAnswersAreNew(t *testing.T) {
	for i, some := range [][]atom{nil, plain(), pool()[:9], list(class("x"), class("y"), attr("t", is, "x"), attr("t", is, "y"), within("u", attr("t", has, "")))} {
		one, steps, _ := local.Letters(some, enough)
		two, _, _ := local.Letters(slices.Clone(some), local.Bound(some))
		fill(one)
		three, steps3, err := local.Letters(some, steps)
		if err != nil || steps != steps3 || !same(two, three) {
			t.Errorf("%d: %d, %d, %v", i, steps, steps3, err)
		}
	}
}

// room is where a list stands, with its spare room.
type room struct{ from, to uintptr }

func roomOf[T any](list []T) room {
	from := uintptr(unsafe.Pointer(unsafe.SliceData(list)))
	return room{from, from + uintptr(cap(list))*unsafe.Sizeof(*new(T))}
}

// P13.4: no two lists of answers share memory, nor does one with the argument's.
func TestListsAreApart(t *testing.T) {
	some := append(plain(), class("x"), class("y"), attr("class", is, "z"), state("link"), within("u", attr("t", is, "q")))
	one, _, _ := local.Letters(some, enough)
	two, _, _ := local.Letters(some, enough)
	all := []room{roomOf(some), roomOf(one), roomOf(two)}
	for _, x := range append(one[:len(one):len(one)], two...) {
		all = append(all, roomOf(x.Holds), roomOf(x.Node.Attrs), roomOf(x.Node.States))
	}
	all = slices.DeleteFunc(all, func(r room) bool { return r.from == r.to })
	slices.SortFunc(all, func(a, b room) int { return cmp.Compare(a.from, b.from) })
	for i := 1; i < len(all); i++ {
		if all[i].from < all[i-1].to {
			t.Fatal("two lists share memory")
		}
	}
	runtime.KeepAlive(some) // what nobody has any more may give its place to others
	runtime.KeepAlive(one)
	runtime.KeepAlive(two)
}

// P1, P2: atoms, elements and budgets of any numbers and texts: each call ends, none panics, and twice it answers the same.
func TestWild(t *testing.T) {
	numbers := []int{0, 1, 2, 3, 4, 5, 6, 7, 8, -1, math.MinInt, math.MaxInt, 1 << 32}
	for seed := range uint32(20000) {
		m := &maker{seed}
		number := func() int { return one(m, numbers...) }
		text := func() string { return one(m, "", "a", "\x00", "\xff", "hover", "x", "é ") }
		var some []atom
		for range m.pick(6) {
			a := atom{Kind: number(), HasSpace: m.pick(2) == 0, Space: text(), Name: text(), Cond: api.Cond{Op: number(), Text: text(), Fold: m.pick(2) == 0}}
			if m.pick(4) > 0 {
				a = one(m, typ("a"), typ(""), attr("a", 1+m.pick(7), "é a"[:2+m.pick(2)]), attr("a", 1+m.pick(7), one(m, "", "x")), state("hover"))
				a.HasSpace, a.Space = m.pick(2) == 0, one(m, "", "u", "hover")
			}
			some = append(some, a)
		}
		n := node{Parent: number(), Kind: number(), Space: text(), Name: text(), Text: text(), Attrs: []api.Attr{{Space: text(), Name: text(), Value: text()}}, States: []string{text()}}
		for _, a := range some {
			if local.Holds(a, n) != holds(a, n) {
				t.Errorf("%v of %v", a, n)
			}
		}
		budget := one(m, append(numbers, 10, 50, 300, 3000)...)
		out, steps, err := local.Letters(some, budget)
		again, steps2, err2 := local.Letters(slices.Clone(some), budget)
		fault := local.Check(some)
		if steps != steps2 || !same(out, again) || (err == nil) != (err2 == nil) || (local.Bound(some) == 0) != (fault != nil) || fault != nil && err == nil || steps < 0 || steps > max(0, budget) || err != nil && len(out) > 0 {
			t.Errorf("%v, %d: %d, %d, %v, %v", some, budget, len(out), steps, err, fault)
		}
		for _, x := range out {
			if dom.Check([]node{x.Node}) != nil {
				t.Errorf("%v: %v", some, x)
			}
		}
		if fault == nil && budget >= local.Bound(some) && err != nil {
			t.Errorf("%v, %d: %v", some, budget, err)
		}
	}
}

// P2: what is asked at once by many is answered the same.
func TestAskedAtOnce(t *testing.T) {
	some := pool()[:14]
	want, steps, _ := local.Letters(some, enough)
	done := make(chan bool)
	for range 4 {
		go func() {
			defer func() { done <- true }()
			for range 10 {
				if got, n, err := local.Letters(some, steps); n != steps || err != nil || !same(got, want) {
					t.Errorf("%d, %d, %v", len(got), n, err)
				}
			}
		}()
	}
	for range 4 {
		<-done
	}
}
