package write_test

import (
	"math"
	"slices"
	"testing"
	"unsafe"

	"wattle/api"
	"wattle/sel"
	"wattle/write"
)

// roomy gives a list all of whose lists have spare room, in which other things stand.
func roomy(some []api.Complex) []api.Complex {
	out := []api.Complex{}
	for _, c := range some {
		var parts []api.Compound
		for _, part := range c.List {
			var simples []simple
			for _, s := range part.List {
				s.Of = roomy(s.Of)
				simples = append(simples, s)
			}
			parts = append(parts, api.Compound{Comb: part.Comb, List: append(simples, class("spare"))[:len(simples)]})
		}
		out = append(out, api.Complex{List: append(parts, api.Compound{Comb: 99})[:len(parts)]})
	}
	return append(out, of(class("spare")))[:len(out)]
}

// whole gives a list with what stands in its spare rooms.
func whole(some []api.Complex) []api.Complex {
	out := slices.Clone(some[:cap(some)])
	for i, c := range out {
		out[i].List = slices.Clone(c.List[:cap(c.List)])
		for k, part := range out[i].List {
			out[i].List[k].List = slices.Clone(part.List[:cap(part.List)])
			for n, s := range out[i].List[k].List {
				out[i].List[k].List[n].Of = whole(s.Of)
			}
		}
	}
	return out
}

// P10.3: lists that are handed in stay, their spare rooms too, and these aren't looked at.
func TestListsStay(t *testing.T) {
	for seed := range 500 {
		m := maker{uint64(seed) * 0x9e3779b97f4a7c15}
		list := m.list(0)
		in := roomy(list)
		before := whole(in)
		if got, want := write.Text(in), write.Text(list); got != want {
			t.Errorf("%q, not %q", got, want)
		}
		for i, c := range in {
			if got, want := write.Complex(c), write.Complex(list[i]); got != want {
				t.Errorf("%q, not %q", got, want)
			}
			for k, part := range c.List {
				for n, s := range part.List {
					if got, want := write.Simple(s), write.Simple(list[i].List[k].List[n]); got != want {
						t.Errorf("%q, not %q", got, want)
					}
				}
			}
		}
		if !sel.Same(whole(in), before) {
			t.Errorf("%v: the list was changed", list)
		}
	}
}

// P10.3: texts' bytes stay, and an answer stays when they are written over.
func TestTextsStay(t *testing.T) {
	for kind, want := range map[int]string{api.SelType: "hover|hover", api.SelClass: ".hover", api.SelID: "#hover", api.SelAttr: `[hover|hover="hover"]`, api.SelState: ":hover", api.SelPseudo: "::hover"} {
		in := []byte("hover")
		text := unsafe.String(&in[0], len(in))
		s := simple{Kind: kind, NS: api.NSNamed, Prefix: text, Name: text, Cond: api.Cond{Op: api.OpIs, Text: text}}
		one, two, three := write.Simple(s), write.Complex(of(s)), write.Text([]api.Complex{of(s)})
		if string(in) != "hover" {
			t.Errorf("%q", in)
		}
		for i := range in {
			in[i] = '#'
		}
		if one != want || two != want || three != want {
			t.Errorf("%q, %q, %q, not %q", one, two, three, want)
		}
	}
}

// P1, P2: wild lists end, without a panic, twice in the same way.
func TestWildLists(t *testing.T) {
	numbers := []int{0, 1, 2, 3, 4, 5, 6, 7, 8, 9, 10, 11, 12, 13, 14, -1, math.MinInt, math.MaxInt, 1000001}
	var wild func(m *maker, depth int) []api.Complex
	wild = func(m *maker, depth int) []api.Complex {
		number := func() int { return numbers[m.pick(len(numbers))] }
		text := func() string { return []string{"", "a", "\x00", "\xff", "-", "é\n"}[m.pick(6)] }
		var out []api.Complex
		for range m.pick(4) {
			var c api.Complex
			for range m.pick(4) {
				part := api.Compound{Comb: number()}
				for range m.pick(4) {
					s := simple{Kind: number(), NS: number(), Prefix: text(), Name: text(), Cond: api.Cond{Op: number(), Text: text(), Fold: m.pick(2) == 0}, Mark: number(), AB: api.AB{A: number(), B: number()}}
					if depth > 0 {
						s.Of = wild(m, depth-1)
					}
					part.List = append(part.List, s)
				}
				c.List = append(c.List, part)
			}
			out = append(out, c)
		}
		return out
	}
	for seed := range 10000 {
		one := wild(&maker{uint64(seed)}, seed%4)
		two := wild(&maker{uint64(seed)}, seed%4)
		if write.Text(one) != write.Text(two) || write.Text(one) != write.Text(one) {
			t.Fatalf("%d: two answers", seed)
		}
	}
}
