package reach_test

import (
	"cmp"
	"errors"
	"fmt"
	"math"
	"runtime"
	"slices"
	"testing"
	"unsafe"

	"wattle/api"
	"wattle/reach"
)

func overwrite[T any](list []T, x T) {
	list = list[:cap(list)]
	for i := range list {
		list[i] = x
	}
}

// spare gives a list with spare room, in which another thing stands.
func spare[T any](x T, list ...T) []T { return append(slices.Clip(list), x)[:len(list)] }

// written gives the plan of a list of hover[t|t=hover]:hover > :hover:not(:is(:root, hover)):nth-child(2n)::hover, in the namespace hover, with the rows of the latter two in another list, and what wants its last row. All lists have spare rooms, and all texts are of the bytes.
func written() (p api.Plan, wants []api.Want, bytes []byte) {
	bytes = []byte("hover")
	s := unsafe.String(&bytes[0], len(bytes))
	atom := func(n int) api.Term { return api.Term{Kind: api.TermAtom, N: n} }
	one := func(terms ...api.Term) api.Step {
		return api.Step{Terms: spare(api.Term{Kind: api.TermRoot}, terms...)}
	}
	row := func(first int, pseudo string, steps ...api.Step) api.Row {
		return api.Row{First: first, Pseudo: pseudo, Steps: spare(api.Step{Comb: 9}, steps...)}
	}
	within := func(kind int, terms ...api.Term) api.Term {
		return api.Term{Kind: kind, Terms: spare(api.Term{Kind: api.TermTrue}, terms...)}
	}
	last := one(atom(2), within(api.TermNot, within(api.TermAny, api.Term{Kind: api.TermRow}, api.Term{Kind: api.TermRow, N: 1})), api.Term{Kind: api.TermCount})
	last.Comb = api.CombChild
	p = api.Plan{
		Atoms:    spare(api.Atom{}, api.Atom{Kind: api.AtomType, Name: s}, api.Atom{Kind: api.AtomAttr, HasSpace: true, Space: s, Name: s, Cond: api.Cond{Op: api.OpIs, Text: s}}, api.Atom{Kind: api.AtomState, Name: s}),
		Rows:     spare(api.Row{First: 9}, row(0, "", one(api.Term{Kind: api.TermRoot})), row(1, s, one(atom(0))), row(2, s, one(atom(0), atom(1), atom(2)), last)),
		Counters: spare(api.Counter{AB: api.AB{B: 3}}, api.Counter{AB: api.AB{A: 2}}, api.Counter{AB: api.AB{A: 2}, Rows: spare(9, 0, 1, 2)}),
		Lists:    spare([]int{9}, spare(9, 2), spare(9, 2, 0, 1)),
		Steps:    4,
	}
	wants = spare(api.Want{Pseudo: "#"}, api.Want{Pseudo: s, All: spare([]int{9}, spare(9, 0), spare(9, 1, 2)), None: spare(2, 0)}, api.Want{Pseudo: s, All: spare([]int{9}, spare(9, 2, 7)), None: spare(2, 0, 1)})
	return p, wants, bytes
}

// whole gives a list with one more part than it has: what stands in its spare room.
func whole[T any](list []T) []T { return list[:len(list)+1] }

// deep tells all of a plan and of wants, with their spare rooms.
func deep(p api.Plan, wants []api.Want) string {
	out := fmt.Sprint(whole(p.Atoms), whole(p.Rows), whole(p.Counters), whole(p.Counters[1].Rows), whole(p.Lists), whole(wants))
	for _, rows := range p.Lists {
		out += fmt.Sprint(whole(rows))
	}
	for _, w := range wants {
		out += fmt.Sprint(whole(w.All), whole(w.None))
		for _, rows := range w.All {
			out += fmt.Sprint(whole(rows))
		}
	}
	for _, r := range p.Rows {
		out += fmt.Sprint(whole(r.Steps))
		for _, s := range r.Steps {
			out += toldTerms(s.Terms)
		}
	}
	return out
}

func toldTerms(terms []api.Term) string {
	if len(terms) == 0 {
		return ""
	}
	out := fmt.Sprint(whole(terms))
	for _, x := range terms {
		out += toldTerms(x.Terms)
	}
	return out
}

// all tells all that is answered of a plan and of wants.
func all(p api.Plan, wants []api.Want) (f api.Found, more [][]api.Want, told string) {
	f, steps, err := reach.Search(p, wants, enough)
	n, ok := reach.Wanted(wants, []bool{false, false, true})
	more = [][]api.Want{reach.One(p, 0), reach.One(p, 1), reach.Both(p, 0, 1), reach.Both(p, 1, 1), reach.Only(p, 1, 0), reach.Only(p, 0, 0)}
	return f, more, fmt.Sprint(f, more, steps, err, n, ok, reach.Bound(p))
}

// P16.5: what is handed in stays, with its spare rooms; answers stay when all of that is written over.
func TestArgumentsStay(t *testing.T) {
	p, wants, bytes := written()
	before := deep(p, wants)
	f, more, told := all(p, wants)
	fresh, freshWants, _ := written()
	_, _, again := all(fresh, freshWants)
	if deep(p, wants) != before || string(bytes) != "hover" || told != again {
		t.Error("an argument was changed")
	}
	if !f.OK || f.Want != 1 || len(f.Path) != 3 {
		t.Error(f)
	}
	answers := fmt.Sprint(f, more)
	for _, w := range wants {
		for _, rows := range w.All {
			overwrite(rows, 7)
		}
		overwrite(w.All, nil)
		overwrite(w.None, 7)
	}
	overwrite(wants, api.Want{})
	for _, rows := range p.Lists {
		overwrite(rows, 7)
	}
	for _, r := range p.Rows {
		overwrite(r.Steps[0].Terms, api.Term{})
		overwrite(r.Steps, api.Step{})
	}
	overwrite(p.Lists, nil)
	overwrite(p.Rows, api.Row{})
	overwrite(p.Atoms, api.Atom{})
	overwrite(p.Counters, api.Counter{})
	overwrite(bytes, '#')
	if fmt.Sprint(f, more) != answers {
		t.Error("an argument is kept")
	}
	runtime.KeepAlive(bytes)
}

// room is where a list stands, with its spare room.
type room struct{ from, to uintptr }

func roomOf[T any](list []T) room {
	from := uintptr(unsafe.Pointer(unsafe.SliceData(list)))
	return room{from, from + uintptr(cap(list))*unsafe.Sizeof(*new(T))}
}

func roomsOf(f api.Found, wants ...[]api.Want) []room {
	out := []room{roomOf(f.Path)}
	for _, m := range f.Path {
		out = append(out, roomOf(m.Node.Attrs), roomOf(m.Node.States))
	}
	for _, list := range wants {
		out = append(out, roomOf(list))
		for _, w := range list {
			out = append(out, roomOf(w.All), roomOf(w.None))
			for _, rows := range w.All {
				out = append(out, roomOf(rows))
			}
		}
	}
	return out
}

// P16.5: no two lists of answers share memory, nor does one with an argument's; also where one letter is met more than once.
func TestListsAreApart(t *testing.T) {
	a := ask(t, "[t=x]:hover > [t=x]:hover + [t=x]:hover ~ [t=x]:hover > [t=x]:hover:nth-child(4 of [t=x]:hover), .x", ".x, a::before, b:not(.x)")
	var rooms []room
	var kept []any
	for range 2 {
		wants := reach.One(a.plan, 0)
		wants[0].All[0] = wants[0].All[0][:1]
		f, more, _ := all(a.plan, wants)
		if len(f.Path) != 8 {
			t.Errorf("%+v", f)
		}
		both, _, err := reach.Search(a.plan, reach.Both(a.plan, 0, 1), enough)
		if !both.OK || err != nil {
			t.Errorf("%+v, %v", both, err)
		}
		rooms = append(rooms, roomsOf(f, append(more, wants)...)...)
		rooms = append(rooms, roomsOf(both)...)
		kept = append(kept, f, more, wants, both)
	}
	for _, rows := range a.plan.Lists {
		rooms = append(rooms, roomOf(rows))
	}
	rooms = slices.DeleteFunc(rooms, func(r room) bool { return r.from == r.to })
	slices.SortFunc(rooms, func(a, b room) int { return cmp.Compare(a.from, b.from) })
	for i := 1; i < len(rooms); i++ {
		if rooms[i].from < rooms[i-1].to {
			t.Fatal("two lists share memory")
		}
	}
	runtime.KeepAlive(kept) // what nobody has any more may give its place to others
}

func (m *maker) wildNumber() int {
	return one(m, 0, 1, 2, 3, 4, 5, 6, 7, 0, 1, 2, -1, math.MinInt, math.MaxInt, 1<<32)
}

// wildPlan gives a plan that nobody made out of lists.
func (m *maker) wildPlan() api.Plan {
	p := api.Plan{Steps: m.wildNumber()}
	for range m.pick(4) {
		p.Atoms = append(p.Atoms, one(m, api.Atom{Kind: api.AtomType, Name: "a"}, api.Atom{Kind: api.AtomState, Name: "hover"}, api.Atom{Kind: api.AtomAttr, Name: "t", Cond: api.Cond{Op: m.wildNumber(), Text: "x"}}, api.Atom{Kind: 1 + m.pick(3)}))
	}
	for range m.pick(4) {
		r := api.Row{First: m.wildNumber(), Pseudo: one(m, "", "before", "\xff")}
		for range m.pick(4) {
			r.Steps = append(r.Steps, api.Step{Comb: m.wildNumber(), Terms: m.wildTerms(3)})
		}
		p.Rows = append(p.Rows, r)
	}
	for range m.pick(4) {
		p.Counters = append(p.Counters, api.Counter{AB: api.AB{A: m.wildNumber(), B: m.wildNumber()}, Rows: []int{m.wildNumber(), m.wildNumber()}[:m.pick(3)]})
	}
	for range m.pick(4) {
		p.Lists = append(p.Lists, []int{m.wildNumber(), m.wildNumber(), m.wildNumber()}[:m.pick(4)])
	}
	return p
}

func (m *maker) wildTerms(deep int) (out []api.Term) {
	for range m.pick(3) {
		x := api.Term{Kind: m.wildNumber(), N: m.wildNumber()}
		if deep > 0 {
			x.Terms = m.wildTerms(deep - 1)
		}
		out = append(out, x)
	}
	return out
}

// P1, P2, P16.2: plans, wants and budgets of any numbers: each call ends, none panics, twice it answers the same, and no more steps are told than the budget is.
func TestWild(t *testing.T) {
	for seed := range uint32(10000) {
		m := &maker{seed}
		plans := []api.Plan{m.wildPlan(), askOf(t, api.Names{}, m.lists(1+m.pick(2))...).plan}
		for _, p := range plans {
			a, b := m.wildNumber(), m.wildNumber()
			wants := append(m.wants(p), api.Want{All: [][]int{{m.wildNumber()}}, None: []int{m.wildNumber()}})
			for _, budget := range []int{m.wildNumber() % 1000, m.pick(1000)} {
				f, steps, err := reach.Search(p, wants, budget)
				again, steps2, err2 := reach.Search(p, wants, budget)
				if !same(f, again) || steps != steps2 || (err == nil) != (err2 == nil) || steps < 0 || steps > max(0, budget) || (err != nil || !f.OK) && !isZero(f) || f.OK && (len(f.Path) == 0 || len(f.Path) >= steps) {
					t.Fatalf("%+v, %+v, %d: %+v, %d, %v", p, wants, budget, f, steps, err)
				}
				if errors.Is(err, api.ErrLimit) && reach.Bound(p) <= budget {
					t.Fatalf("%+v, %+v, %d: %v", p, wants, budget, err)
				}
			}
			if b := reach.Bound(p); b < 0 || b > 1<<62 || b != reach.Bound(p) {
				t.Fatalf("%+v: %d", p, b)
			}
			for _, ask := range []func() []api.Want{func() []api.Want { return reach.One(p, a) }, func() []api.Want { return reach.Both(p, a, b) }, func() []api.Want { return reach.Only(p, a, b) }, func() []api.Want { return reach.Only(p, m.pick(3), a) }} {
				seed := m.seed
				one := ask()
				m.seed = seed
				if !sameWants(one, ask()) {
					t.Fatalf("%+v, %d, %d: %v", p, a, b, one)
				}
			}
		}
	}
}

// P1: plans that are their own part come to an end.
func TestEndlessPlans(t *testing.T) {
	for kind := range 9 {
		round := []api.Term{{Kind: kind}, {Kind: kind, N: 1}, {Kind: api.TermNot}}
		round[0].Terms, round[2].Terms = round, round
		p := api.Plan{Rows: []api.Row{{Steps: []api.Step{{Terms: round}}}, {First: 1, Steps: []api.Step{{Terms: round[2:]}}}}, Counters: []api.Counter{{Rows: []int{0}}, {Rows: []int{1, 0}}}, Lists: [][]int{{0, 1, 2}}, Steps: 2}
		if _, steps, err := reach.Search(p, reach.One(p, 0), enough); err != nil || steps > reach.Bound(p) {
			t.Errorf("%d: %d, %v", kind, steps, err)
		}
	}
}

// P2: what is asked at once by many is answered the same.
func TestAskedAtOnce(t *testing.T) {
	p := ask(t, "a b + .x:nth-child(3n+2) ~ :not(.x *), b::before", "a b ~ .x + *").plan
	_, _, want := all(p, reach.Only(p, 0, 1))
	done := make(chan bool)
	for range 4 {
		go func() {
			defer func() { done <- true }()
			for range 10 {
				if _, _, got := all(p, reach.Only(p, 0, 1)); got != want {
					t.Errorf("%s, not %s", got, want)
				}
			}
		}()
	}
	for range 4 {
		<-done
	}
}
