package step_test

import (
	"cmp"
	"fmt"
	"math"
	"runtime"
	"slices"
	"testing"
	"unsafe"

	"wattle/api"
	"wattle/step"
)

func overwrite[T any](list []T, x T) {
	list = list[:cap(list)]
	for i := range list {
		list[i] = x
	}
}

// spare gives a list with spare room, in which another thing stands.
func spare[T any](x T, list ...T) []T { return append(slices.Clip(list), x)[:len(list)] }

// roomy gives the plan of :not(a):nth-child(2n of a) > *, all of whose lists have spare rooms.
func roomy() api.Plan {
	row := spare(api.Term{Kind: api.TermTrue}, api.Term{Kind: api.TermRow})
	not := spare(api.Term{Kind: api.TermTrue}, api.Term{Kind: api.TermAny, Terms: row})
	terms := spare(api.Term{Kind: api.TermRoot}, api.Term{Kind: api.TermNot, Terms: not}, api.Term{Kind: api.TermCount})
	atom, all := spare(api.Term{Kind: api.TermRoot}, api.Term{Kind: api.TermAtom}), spare(api.Term{Kind: api.TermRoot}, api.Term{Kind: api.TermTrue})
	return api.Plan{
		Atoms:    spare(api.Atom{Kind: api.AtomState}, api.Atom{Kind: api.AtomType, Name: "a"}),
		Rows:     spare(api.Row{First: 9}, api.Row{Steps: spare(api.Step{Comb: 9}, api.Step{Terms: atom})}, api.Row{First: 1, Steps: spare(api.Step{Comb: 9}, api.Step{Terms: terms}, api.Step{Comb: api.CombBelow, Terms: all})}),
		Counters: spare(api.Counter{AB: api.AB{A: 9}}, api.Counter{AB: api.AB{A: 2}, Rows: spare(9, 0)}),
		Lists:    spare([]int{9}, spare(9, 1)),
		Steps:    3,
	}
}

// asked tells all that is answered of a plan, a context, the truths of atoms, and those of steps.
func asked(p api.Plan, c api.Context, holds, fits []bool) string {
	return fmt.Sprintf("%v %v %v %v %v %q", step.Start(p), step.Truths(p, c, holds), step.Down(p, c, fits), step.Next(p, c, fits), step.Selected(p, fits), step.Key(c))
}

// P15.4: what is handed in stays, with its spare rooms; answers stay when all of that is written over.
func TestArgumentsStay(t *testing.T) {
	p := roomy()
	c := api.Context{Up: spare(true, false, true, false), Left: spare(true, true, false, true), Counts: spare(77, 1)}
	holds, fits := spare(true, false), spare(true, false, true, true)
	first, truths, down, next, selected, key := step.Start(p), step.Truths(p, c, holds), step.Down(p, c, fits), step.Next(p, c, fits), step.Selected(p, fits), step.Key(c)
	want := fmt.Sprint(first, truths, down, next, selected, []byte(key))
	if got := asked(p, c, holds, fits); got != asked(roomy(), c, holds, fits) {
		t.Error(got)
	}
	if fmt.Sprint(c, c.Up[:4], c.Left[:4], c.Counts[:2], holds[:2], fits[:4]) != "{false [false true false] [true false true] [1]} [false true false true] [true false true true] [1 77] [false true] [false true true true]" {
		t.Error("an argument was changed")
	}
	r := p.Rows[:3]
	if fmt.Sprint(p) != fmt.Sprint(roomy()) || fmt.Sprint(p.Atoms[:2], r[2], r[0].Steps[:2], r[1].Steps[:3], p.Counters[:2], p.Counters[0].Rows[:2], p.Lists[:2], p.Lists[0][:2]) != fmt.Sprint(roomy().Atoms[:2], roomy().Rows[:3][2], roomy().Rows[0].Steps[:2], roomy().Rows[1].Steps[:3], roomy().Counters[:2], roomy().Counters[0].Rows[:2], roomy().Lists[:2], roomy().Lists[0][:2]) || r[1].Steps[0].Terms[:3][2].Kind != api.TermRoot || r[1].Steps[0].Terms[0].Terms[:2][1].Kind != api.TermTrue {
		t.Error("the plan was changed")
	}
	overwrite(r[1].Steps[0].Terms, api.Term{})
	overwrite(r[1].Steps, api.Step{})
	overwrite(p.Rows, api.Row{})
	overwrite(p.Counters[0].Rows, 5)
	overwrite(p.Counters, api.Counter{})
	overwrite(c.Up, true)
	overwrite(c.Left, true)
	overwrite(c.Counts, 5)
	overwrite(holds, true)
	overwrite(fits, true)
	if got := fmt.Sprint(first, truths, down, next, selected, []byte(key)); got != want || want != "{true [false false false] [false false false] [0]} [false false true] {false [false true false] [false false false] [0]} {false [false true false] [false false false] [1]} [false true] [0 2 5 1]" {
		t.Error(got, want)
	}
}

// room is where a list stands, with its spare room.
type room struct{ from, to uintptr }

func roomOf[T any](list []T) room {
	from := uintptr(unsafe.Pointer(unsafe.SliceData(list)))
	return room{from, from + uintptr(cap(list))*unsafe.Sizeof(*new(T))}
}

func roomsOf(c api.Context) []room { return []room{roomOf(c.Up), roomOf(c.Left), roomOf(c.Counts)} }

// checkApart tells of lists whether two of them share memory.
func checkApart(t *testing.T, all []room) {
	t.Helper()
	all = slices.DeleteFunc(all, func(r room) bool { return r.from == r.to })
	slices.SortFunc(all, func(a, b room) int { return cmp.Compare(a.from, b.from) })
	for i := 1; i < len(all); i++ {
		if all[i].from < all[i-1].to {
			t.Fatal("two lists share memory")
		}
	}
}

// P15.4: no two lists of answers share memory, nor does one with an argument's.
func TestListsAreApart(t *testing.T) {
	for seed := range uint32(300) {
		m := maker{seed}
		p := planOf(t, m.names(), m.lists(2)...)
		c, holds, fits := m.context(p), m.truths(len(p.Atoms)), m.truths(p.Steps)
		contexts, truths := []api.Context{c}, [][]bool{holds, fits}
		for range 2 {
			contexts = append(contexts, step.Start(p), step.Down(p, c, fits), step.Next(p, c, fits))
			truths = append(truths, step.Truths(p, c, holds), step.Selected(p, fits))
		}
		all := []room{}
		for _, c := range contexts {
			all = append(all, roomsOf(c)...)
		}
		for _, l := range truths {
			all = append(all, roomOf(l))
		}
		checkApart(t, all)
		runtime.KeepAlive([]any{contexts, truths}) // what nobody has any more may give its place to others
	}
}

// P15.4, P2: a Key stays when another one is asked for.
func TestKeysStay(t *testing.T) {
	c := api.Context{Up: truths("1011"), Counts: []int{5}}
	one := step.Key(c)
	want := string([]byte(one))
	overwrite(c.Up, false)
	overwrite(c.Counts, 9)
	if step.Key(c) == one || one != want {
		t.Errorf("%q", one)
	}
}

func (m *maker) wildNumber() int {
	return m.number(0, 1, 2, 3, 4, 5, 6, 7, 0, 1, 2, -1, math.MinInt, math.MaxInt, 1<<32)
}

// wildPlan gives a plan that nobody made out of lists.
func (m *maker) wildPlan() api.Plan {
	p := api.Plan{Steps: m.wildNumber(), Atoms: make([]api.Atom, m.pick(3))}
	for range m.pick(4) {
		r := api.Row{First: m.wildNumber(), Pseudo: m.text("", "before", "\xff")}
		for range m.pick(4) {
			r.Steps = append(r.Steps, api.Step{Comb: m.wildNumber(), Terms: m.wildTerms(3)})
		}
		p.Rows = append(p.Rows, r)
	}
	for range m.pick(4) {
		p.Counters = append(p.Counters, api.Counter{AB: api.AB{A: m.wildNumber(), B: m.wildNumber()}, Rows: []int{m.wildNumber(), m.wildNumber()}[:m.pick(3)]})
		p.Lists = append(p.Lists, []int{m.wildNumber()})
	}
	return p
}

func (m *maker) wildTerms(deep int) (out []api.Term) {
	for range m.pick(3) {
		x := api.Term{Kind: m.wildNumber(), N: m.wildNumber()}
		if deep > 0 {
			x.Terms = m.wildTerms(deep - 1)
		}
		out = append(out, x)
	}
	return out
}

// P1, P2: plans, contexts and truths of any numbers: each call ends, none panics, and twice it answers the same, with lists as long as those of Start.
func TestWild(t *testing.T) {
	for seed := range uint32(30000) {
		m := maker{seed}
		p, other := m.wildPlan(), planOf(t, m.names(), m.lists(1)...)
		c, holds, fits := m.context(other), m.truths(len(p.Atoms)), m.truths(other.Steps)
		for _, p := range []api.Plan{p, other} {
			if asked(p, c, holds, fits) != asked(p, c, slices.Clone(holds), slices.Clone(fits)) {
				t.Fatalf("%+v, %+v: two answers", p, c)
			}
			first := step.Start(p)
			many := [3]int{len(first.Up), len(first.Left), len(first.Counts)}
			for _, d := range []api.Context{step.Down(p, c, fits), step.Next(p, c, fits)} {
				if [3]int{len(d.Up), len(d.Left), len(d.Counts)} != many || d.Root {
					t.Fatalf("%+v, %+v: %+v", p, c, d)
				}
			}
			if len(step.Truths(p, c, holds)) != many[0] || len(step.Selected(p, fits)) != len(p.Rows) {
				t.Fatalf("%+v, %+v: too short, or too long", p, c)
			}
		}
	}
}

// P1: a term that is its own part, and terms that are deep within one another, come to an end, as do rows and counters that ask for themselves.
func TestEndlessPlans(t *testing.T) {
	for kind := range 9 {
		round := []api.Term{{Kind: kind}, {Kind: kind, N: 1}, {Kind: api.TermNot}}
		round[0].Terms, round[2].Terms = round, round
		deep := []api.Term{{Kind: api.TermTrue}}
		for range 1 << 16 {
			deep = []api.Term{{Kind: kind, Terms: deep}}
		}
		for _, terms := range [][]api.Term{round, round[2:], deep} {
			p := api.Plan{Rows: []api.Row{{Steps: []api.Step{{Terms: terms}}}, {First: 1, Steps: []api.Step{{Terms: terms}}}}, Counters: []api.Counter{{Rows: []int{0}}, {Rows: []int{1, 0}}}, Steps: 2}
			c, fits := step.Start(p), []bool{true, false}
			if asked(p, c, fits, fits) != asked(p, c, fits, fits) || len(step.Truths(p, c, fits)) != 2 {
				t.Errorf("%d: two answers", kind)
			}
		}
	}
}

// P2: what is asked at once by many is answered the same.
func TestAskedAtOnce(t *testing.T) {
	m := maker{5}
	p := planOf(t, m.names(), m.list(3, true), m.list(3, true))
	c, holds, fits := m.context(p), m.truths(len(p.Atoms)), m.truths(p.Steps)
	want := asked(p, c, holds, fits)
	done := make(chan bool)
	for range 4 {
		go func() {
			defer func() { done <- true }()
			for range 100 {
				if got := asked(p, c, holds, fits); got != want {
					t.Errorf("%s, not %s", got, want)
				}
			}
		}()
	}
	for range 4 {
		<-done
	}
}
