package ask_test

import (
	"cmp"
	"fmt"
	"math"
	"runtime"
	"slices"
	"testing"
	"unsafe"

	"wattle/api"
	"wattle/ask"
	"wattle/flat"
	"wattle/plant"
	"wattle/reach"
)

func overwrite[T any](list []T, x T) {
	list = list[:cap(list)]
	for i := range list {
		list[i] = x
	}
}

// spare gives a list with spare room, in which another thing stands.
func spare[T any](x T, list ...T) []T { return append(slices.Clip(list), x)[:len(list)] }

// whole gives a list with one more part than it has: what stands in its spare room.
func whole[T any](list []T) []T { return list[:len(list)+1] }

// written gives the list of before|before.before[before|before=before]:not(#before) > *::before, in a namespace before. All its lists have spare rooms, and all texts are of the bytes; names, too.
func written() (list []api.Complex, names api.Names, bytes []byte) {
	bytes = []byte("before")
	s := unsafe.String(&bytes[0], len(bytes))
	names = api.Names{Prefixes: spare("spare", s), Spaces: spare("spare", s)}
	more := api.Complex{List: []api.Compound{{Comb: 99}}}
	id := spare(more, api.Complex{List: spare(api.Compound{}, api.Compound{List: spare(api.Simple{}, api.Simple{Kind: api.SelID, Name: s})})})
	first := spare(api.Simple{}, api.Simple{Kind: api.SelType, NS: api.NSNamed, Prefix: s, Name: s}, api.Simple{Kind: api.SelClass, Name: s}, api.Simple{Kind: api.SelAttr, NS: api.NSNamed, Prefix: s, Name: s, Cond: api.Cond{Op: api.OpIs, Text: s}}, api.Simple{Kind: api.SelNot, Of: id})
	last := spare(api.Simple{}, api.Simple{Kind: api.SelAny}, api.Simple{Kind: api.SelPseudo, Name: s})
	list = spare(more, api.Complex{List: spare(api.Compound{}, api.Compound{List: first}, api.Compound{Comb: api.CombChild, List: last})})
	return list, names, bytes
}

// told tells all of a list, and of names, with their spare rooms.
func told(list []api.Complex, names api.Names) string {
	out := fmt.Sprint(whole(list), whole(names.Prefixes), whole(names.Spaces))
	for _, c := range list {
		out += fmt.Sprint(whole(c.List))
		for _, d := range c.List {
			out += fmt.Sprint(whole(d.List))
			for _, s := range d.List {
				if len(s.Of) > 0 {
					out += told(s.Of, names)
				}
			}
		}
	}
	return out
}

// scribble writes over all of a list and its spare rooms.
func scribble(list []api.Complex) {
	for _, c := range list {
		for _, d := range c.List {
			for _, s := range d.List {
				scribble(s.Of)
			}
			overwrite(d.List, api.Simple{Kind: 77})
		}
		overwrite(c.List, api.Compound{Comb: 77})
	}
	overwrite(list, api.Complex{})
}

// answers gives all that is answered of a list and another one.
func answers(t *testing.T, list, other []api.Complex, names api.Names, p api.Plan, wants []api.Want) (out []api.Verdict) {
	t.Helper()
	for _, q := range append(questions(list, other, names), questions(other, list, names)...) {
		v, err := q.ask(enough)
		if err != nil {
			t.Fatal(err)
		}
		out = append(out, v)
	}
	v, err := ask.Witness(p, wants, enough)
	if err != nil || v.Kind != api.Yes || v.Way != 1 {
		t.Fatal(v, err)
	}
	return append(out, v)
}

// P18.5: what is handed in stays, with its spare rooms; answers stay when all of that is written over.
func TestArgumentsStay(t *testing.T) {
	list, names, bytes := written()
	other, _, otherBytes := written()
	other[0].List[0].Comb = 0
	other[0].List = other[0].List[:1]
	p, err := flat.Make([][]api.Complex{list}, names)
	if err != nil {
		t.Fatal(err)
	}
	s := names.Prefixes[0]
	rows := spare(9, p.Lists[0][0])
	wants := spare(api.Want{}, api.Want{All: spare(nil, []int{})}, api.Want{Pseudo: s, All: spare([]int{9}, rows), None: spare(9, 77)})
	before, beforePlan := told(list, names)+told(other, names)+fmt.Sprint(whole(wants), whole(wants[1].All), whole(rows), whole(wants[1].None)), fmt.Sprint(p)
	got := answers(t, list, other, names, p, wants)
	if told(list, names)+told(other, names)+fmt.Sprint(whole(wants), whole(wants[1].All), whole(rows), whole(wants[1].None)) != before || fmt.Sprint(p) != beforePlan || string(bytes) != "before" || string(otherBytes) != "before" {
		t.Error("an argument was changed")
	}
	want := fmt.Sprint(answers(t, list, other, names, p, wants))
	if fmt.Sprint(got) != want {
		t.Error("two answers")
	}
	if got[0].Kind != api.Yes || got[0].Subject != (api.Subject{Node: 1, Pseudo: "before"}) || plant.Size(got[0].Doc) != 4 || got[3].Way != api.WayFirst || got[7].Way != api.WayFirst {
		t.Errorf("%+v", got)
	}
	want = fmt.Sprint(got)
	overwriteAll(p, wants)
	scribble(list)
	scribble(other)
	overwrite(names.Prefixes, "#")
	overwrite(names.Spaces, "#")
	overwrite(bytes, '#')
	overwrite(otherBytes, '#')
	if fmt.Sprint(got) != want {
		t.Errorf("an argument is kept: %+v", got)
	}
	runtime.KeepAlive([]any{bytes, otherBytes})
}

func overwriteAll(p api.Plan, wants []api.Want) {
	for _, w := range wants {
		for _, rows := range w.All {
			overwrite(rows, 7)
		}
		overwrite(w.All, nil)
		overwrite(w.None, 7)
	}
	overwrite(wants, api.Want{Pseudo: "#"})
	for _, r := range p.Rows {
		overwrite(r.Steps, api.Step{})
	}
	overwrite(p.Rows, api.Row{})
	overwrite(p.Atoms, api.Atom{})
}

// room is where a list stands, with its spare room.
type room struct{ from, to uintptr }

func roomOf[T any](list []T) room {
	from := uintptr(unsafe.Pointer(unsafe.SliceData(list)))
	return room{from, from + uintptr(cap(list))*unsafe.Sizeof(*new(T))}
}

// P18.5: no two lists of answers share memory; also where one letter is met more than once.
func TestListsAreApart(t *testing.T) {
	a, b := list(t, "[t=x]:hover > [t=x]:hover + [t=x]:hover ~ [t=x]:hover > [t=x]:hover:nth-child(4 of [t=x]:hover)"), list(t, ".x, a::before, b:not(.x)")
	p, err := flat.Make([][]api.Complex{a, b}, spaces())
	if err != nil {
		t.Fatal(err)
	}
	var rooms []room
	var kept []any
	for range 2 {
		for _, v := range answers(t, a, b, spaces(), p, append([]api.Want{{None: p.Lists[0], All: [][]int{{}}}}, reach.One(p, 0)...)) {
			rooms = append(rooms, roomOf(v.Doc))
			for _, n := range v.Doc {
				rooms = append(rooms, roomOf(n.Attrs), roomOf(n.States))
			}
			kept = append(kept, v)
		}
	}
	rooms = slices.DeleteFunc(rooms, func(r room) bool { return r.from == r.to })
	slices.SortFunc(rooms, func(a, b room) int { return cmp.Compare(a.from, b.from) })
	for i := 1; i < len(rooms); i++ {
		if rooms[i].from < rooms[i-1].to {
			t.Fatal("two lists share memory")
		}
	}
	if len(rooms) < 50 {
		t.Error(len(rooms))
	}
	runtime.KeepAlive(kept) // what nobody has any more may give its place to others
}

func (m *maker) wildNumber() int {
	return one(m, 0, 1, 2, 3, 4, 5, 6, 7, 0, 1, 2, -1, math.MinInt, math.MaxInt, 1<<32)
}

// wildPlan gives a plan that nobody made out of lists.
func (m *maker) wildPlan() api.Plan {
	p := api.Plan{Steps: m.wildNumber()}
	for range m.pick(4) {
		p.Atoms = append(p.Atoms, one(m, api.Atom{Kind: api.AtomType, Name: "a"}, api.Atom{Kind: api.AtomState, Name: "hover"}, api.Atom{Kind: api.AtomAttr, Name: "t", Cond: api.Cond{Op: m.wildNumber(), Text: "x"}}, api.Atom{Kind: 1 + m.pick(3)}))
	}
	for range m.pick(4) {
		r := api.Row{First: m.wildNumber(), Pseudo: one(m, "", "before", "\xff")}
		for range m.pick(4) {
			r.Steps = append(r.Steps, api.Step{Comb: m.wildNumber(), Terms: m.wildTerms(3)})
		}
		p.Rows = append(p.Rows, r)
	}
	for range m.pick(4) {
		p.Counters = append(p.Counters, api.Counter{AB: api.AB{A: m.wildNumber(), B: m.wildNumber()}, Rows: []int{m.wildNumber(), m.wildNumber()}[:m.pick(3)]})
	}
	for range m.pick(4) {
		p.Lists = append(p.Lists, []int{m.wildNumber(), m.wildNumber(), m.wildNumber()}[:m.pick(4)])
	}
	return p
}

func (m *maker) wildTerms(deep int) (out []api.Term) {
	for range m.pick(3) {
		x := api.Term{Kind: m.wildNumber(), N: m.wildNumber()}
		if deep > 0 {
			x.Terms = m.wildTerms(deep - 1)
		}
		out = append(out, x)
	}
	return out
}

// wildList gives a list that is mostly wrong.
func (m *maker) wildList() (out []api.Complex) {
	if m.pick(2) == 0 {
		return m.list(1, true)
	}
	for range m.pick(3) {
		c := api.Complex{}
		for range m.pick(3) {
			d := api.Compound{Comb: m.wildNumber()}
			for range m.pick(3) {
				d.List = append(d.List, api.Simple{Kind: m.wildNumber(), NS: m.wildNumber(), Prefix: one(m, "u", "", "w"), Name: one(m, "a", "hover", "before", "\xff"), Cond: api.Cond{Op: m.wildNumber(), Text: "x"}, Mark: m.wildNumber(), AB: api.AB{A: m.wildNumber(), B: m.wildNumber()}})
			}
			c.List = append(c.List, d)
		}
		out = append(out, c)
	}
	return out
}

// P1, P2, P18.1: lists, plans, wants and budgets of any numbers: each call ends, none panics, twice it answers the same, and no more steps are told than the budget is.
func TestWild(t *testing.T) {
	for seed := range uint32(6000) {
		m := &maker{seed: seed}
		names := one(m, spaces(), api.Names{}, api.Names{Prefixes: []string{"u"}}, api.Names{HasDefault: true, Default: "\xff"})
		a, b, p := m.wildList(), m.wildList(), m.wildPlan()
		wants := []api.Want{{Pseudo: "\xff", All: [][]int{{m.wildNumber(), m.wildNumber()}}, None: []int{m.wildNumber()}}, {All: [][]int{{0, 1}}}, {All: [][]int{{m.pick(3)}, {2, m.wildNumber()}}}}[:m.pick(4)]
		asks := []func(budget int) (api.Verdict, error){func(n int) (api.Verdict, error) { return ask.Witness(p, wants, n) }}
		for _, q := range questions(a, b, names) {
			asks = append(asks, q.ask)
		}
		for i, get := range asks {
			for _, budget := range []int{m.wildNumber() % 1000, m.pick(1000)} {
				v, err := get(budget)
				again, err2 := get(budget)
				if !sameVerdict(v, again) || (err == nil) != (err2 == nil) || v.Steps < 0 || v.Steps > max(0, budget) || err != nil && !isFailed(v, budget) {
					t.Fatalf("%d: %+v, %+v, %d: %+v, %v", i, a, b, budget, v, err)
				}
			}
		}
	}
}

// P1: plans that are their own part come to an end.
func TestEndlessPlans(t *testing.T) {
	for kind := range 9 {
		round := []api.Term{{Kind: kind}, {Kind: kind, N: 1}, {Kind: api.TermNot}}
		round[0].Terms, round[2].Terms = round, round
		p := api.Plan{Rows: []api.Row{{Steps: []api.Step{{Terms: round}}}, {First: 1, Steps: []api.Step{{Terms: round[2:]}}}}, Counters: []api.Counter{{Rows: []int{0}}, {Rows: []int{1, 0}}}, Lists: [][]int{{0, 1, 2}}, Steps: 2}
		if v, err := ask.Witness(p, reach.One(p, 0), enough); err != nil || v.Kind == 0 {
			t.Errorf("%d: %+v, %v", kind, v, err)
		}
	}
}

// P2: what is asked at once by many is answered the same.
func TestAskedAtOnce(t *testing.T) {
	a, b := list(t, "a b + .x:nth-child(3n+2) ~ :not(.x *), b::before"), list(t, "a b ~ .x + *")
	var want []api.Verdict
	for _, q := range questions(a, b, spaces()) {
		want = append(want, q.get(t))
	}
	done := make(chan bool)
	for range 4 {
		go func() {
			defer func() { done <- true }()
			for range 5 {
				for i, q := range questions(a, b, spaces()) {
					if got, err := q.ask(enough); err != nil || !sameVerdict(got, want[i]) {
						t.Errorf("%+v, not %+v", got, want[i])
					}
				}
			}
		}()
	}
	for range 4 {
		<-done
	}
}
