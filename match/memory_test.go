package match_test

import (
	"math"
	"runtime"
	"slices"
	"testing"
	"unsafe"

	"wattle/api"
	"wattle/match"
	"wattle/sel"
)

func overwrite[T any](list []T, x T) {
	list = list[:cap(list)]
	for i := range list {
		list[i] = x
	}
}

// spare gives a list with spare room, in which another thing stands.
func spare[T any](x T, list ...T) []T { return append(slices.Clip(list), x)[:len(list)] }

// written gives a list with spare rooms and with texts of the bytes; the texts are before.
func written() (some []api.Complex, names api.Names, bytes []byte) {
	bytes = []byte("before")
	s := unsafe.String(&bytes[0], len(bytes))
	inner := spare(one(typ("b")), one(typ(s)))
	last := spare(id("i"), class(s), nth(1, 0, inner...), holds(api.SelNot, spare(one(), one(id(s)))...), simple{Kind: api.SelAttr, NS: api.NSNamed, Prefix: s, Name: s, Cond: api.Cond{Op: api.OpIs, Text: s}}, pseudo(s))
	parts := spare(api.Compound{}, api.Compound{List: spare(id("i"), typ(s))}, api.Compound{Comb: api.CombBelow, List: last})
	return spare(one(typ(s)), api.Complex{List: parts}), api.Names{HasDefault: true, Default: s, Prefixes: spare("x", "y", s), Spaces: spare("x", "z", s)}, bytes
}

// P12.3: what is handed in stays, with its spare rooms; the tree stays, too; answers stay when all else is written over.
func TestMemory(t *testing.T) {
	some, names, bytes := written()
	doc := []node{within("before", el(-1, "before")), within("before", el(0, "before", "class", "x before"))}
	doc[1].Attrs = append(doc[1].Attrs, api.Attr{Space: "before", Name: "before", Value: "before"})
	d := tree(t, doc...)
	before, whole := sel.Copy(some[:2]), sel.Copy(list(api.Complex{List: some[0].List[:3]}, one(some[0].List[1].List[:6]...)))
	want := []subject{of(1, "before")}
	first, second := match.All(d, some, names), match.All(d, some, names)
	spec, ok := match.Spec(d, some, names, want[0])
	if !slices.Equal(first, want) || !ok || spec != (api.Spec{A: 1, B: 3, C: 3}) || !match.Selects(d, some, names, want[0]) || !match.Complex(d, some[0], names, want[0]) || !match.Simple(d, some[0].List[1].List[1], names, 1) {
		t.Errorf("%v, %v", first, spec)
	}
	if !sel.Same(before, some[:2]) || !sel.Same(whole, list(api.Complex{List: some[0].List[:3]}, one(some[0].List[1].List[:6]...))) || !slices.Equal(names.Prefixes[:3], []string{"y", "before", "x"}) || !slices.Equal(names.Spaces[:3], []string{"z", "before", "x"}) {
		t.Error("an argument was changed")
	}
	overwrite(bytes, '#')
	overwrite(some[0].List[1].List, simple{})
	overwrite(some, api.Complex{})
	if !slices.Equal(first, want) {
		t.Errorf("the list is kept: %v", first)
	}
	overwrite(first, of(7, "x"))
	if !slices.Equal(second, want) || unsafe.SliceData(first) == unsafe.SliceData(second) {
		t.Errorf("answers share memory: %v", second)
	}
	for n, x := range doc {
		if got, ok := d.Node(n); !ok || got.Name != x.Name || !slices.Equal(got.Attrs, x.Attrs) {
			t.Errorf("%d: %v", n, got)
		}
	}
	runtime.KeepAlive(bytes)
}

// P2: what is asked again is answered again, also of a tree that is asked at once by many.
func TestAskedAgain(t *testing.T) {
	m := maker{7}
	w := words{m.doc(8), m.names()}
	d, some := tree(t, w.doc...), m.list(2)
	want := w.all(some)
	done := make(chan bool)
	for range 4 {
		go func() {
			defer func() { done <- true }()
			for range 50 {
				if got := match.All(d, some, w.names); !slices.Equal(got, want) {
					t.Errorf("%v, not %v", got, want)
				}
			}
		}()
	}
	for range 4 {
		<-done
	}
}

// P1: selectors of any numbers and texts, at any places: each call ends, and none panics.
func TestWildSelectors(t *testing.T) {
	numbers := []int{0, 1, 2, 3, 4, 5, 6, 7, 8, 9, 10, 11, 12, 13, 14, -1, math.MinInt, math.MaxInt, 1 << 32}
	for seed := range uint32(5000) {
		m := maker{seed}
		number := func() int { return m.number(numbers...) }
		some := func() string { return m.text("", "a", "\x00", "\xff", "hover", "x", "before") }
		var wild func(depth int) []api.Complex
		wild = func(depth int) []api.Complex {
			var out []api.Complex
			for range m.pick(4) {
				var c api.Complex
				for range m.pick(3) {
					part := api.Compound{Comb: number()}
					for range m.pick(3) {
						s := simple{Kind: number(), NS: number(), Prefix: some(), Name: some(), Cond: api.Cond{Op: number(), Text: some(), Fold: m.pick(2) == 0}, Mark: number(), AB: api.AB{A: number(), B: number()}}
						if depth > 0 {
							s.Of = wild(depth - 1)
						}
						part.List = append(part.List, s)
					}
					c.List = append(c.List, part)
				}
				out = append(out, c)
			}
			return out
		}
		w := words{m.doc(5), api.Names{HasDefault: m.pick(2) == 0, Default: some(), Prefixes: []string{some(), some()}, Spaces: []string{some(), some(), some()}[:m.pick(4)]}}
		list, d := wild(2), tree(t, w.doc...)
		s := of(number(), some())
		want, ok := w.spec(list, s)
		if spec, got := match.Spec(d, list, w.names, s); spec != want || got != ok || match.Selects(d, list, w.names, s) != ok {
			t.Errorf("%+v, %+v, %v: %v, %v", w, list, s, spec, got)
		}
		match.All(d, list, w.names)
	}
}
