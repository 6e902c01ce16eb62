package flat_test

import (
	"cmp"
	"fmt"
	"math"
	"runtime"
	"slices"
	"testing"
	"unsafe"

	"wattle/api"
	"wattle/flat"
	"wattle/sel"
)

func overwrite[T any](list []T, x T) {
	list = list[:cap(list)]
	for i := range list {
		list[i] = x
	}
}

// spare gives a list with spare room, in which another thing stands.
func spare[T any](x T, list ...T) []T { return append(slices.Clip(list), x)[:len(list)] }

// written gives lists with spare rooms, and namespaces, all of whose texts are of the bytes: hover, and a pseudo-element's before.
func written() (lists [][]api.Complex, names api.Names, bytes []byte) {
	bytes = []byte("hoverbefore")
	both := unsafe.String(&bytes[0], len(bytes))
	s, before := both[:5], both[5:]
	extra := one(pseudo("after"))
	inner := spare(extra, one(typ(s)), one(spaced(api.NSNamed, s, class(s))))
	inner[1] = one(spaced(api.NSNamed, s, typ(s)), class(s))
	parts := []simple{spaced(api.NSNamed, s, simple{Kind: api.SelAny}), class(s), id(s), attr(s, api.OpIs, s), spaced(api.NSNamed, s, attr("t", api.OpEnd, s[:2])), state(s), nth(2, 1, inner...), holds(api.SelNot, inner...), holds(api.SelIs, inner...), {Kind: api.SelLink}}
	c := then(one(typ(s)), api.CombChild, spare(id("spare"), parts...)...)
	c.List = spare(api.Compound{Comb: 99}, c.List...)
	lists = spare(nil, spare(extra, c, one(typ(s), pseudo(before))), spare(extra, c, c))
	return lists, api.Names{HasDefault: true, Default: s, Prefixes: spare(s, s), Spaces: spare("x", s)}, bytes
}

// P14.3: what is handed in stays, with its spare rooms; a plan stays when all of that is written over.
func TestArgumentsStay(t *testing.T) {
	lists, names, bytes := written()
	var before [][]api.Complex
	for _, l := range lists {
		before = append(before, sel.Copy(l))
	}
	want := told(planOf(t, api.Names{HasDefault: true, Default: "hover", Prefixes: []string{"hover"}, Spaces: []string{"hover"}}, before...))
	p := planOf(t, names, lists...)
	if got := told(p); got != want {
		t.Errorf("%s, not %s", got, want)
	}
	for i, l := range lists {
		if !sel.Same(l, before[i]) || !sel.Same(l[:cap(l)][2:3], list(one(pseudo("after")))) || l[0].List[:3][2].Comb != 99 || l[0].List[1].List[:11][10].Name != "spare" || !sel.Same(l[0].List[1].List[6].Of[:3][2:], list(one(pseudo("after")))) {
			t.Errorf("%d: an argument was changed", i)
		}
	}
	if lists[:3][2] != nil || string(bytes) != "hoverbefore" || names.Prefixes[:2][1] != "hover" || names.Spaces[:2][1] != "x" {
		t.Error("an argument was changed")
	}
	c := lists[0][0] // which is in the other list, too
	overwrite(c.List[1].List[6].Of, one(id("#")))
	overwrite(c.List[1].List, id("#"))
	overwrite(c.List, api.Compound{Comb: 77})
	overwrite(lists[0], api.Complex{})
	overwrite(lists[1], api.Complex{})
	overwrite(lists, nil)
	overwrite(names.Prefixes, "#")
	overwrite(names.Spaces, "#")
	overwrite(bytes, '#')
	if got := told(p); got != want {
		t.Errorf("%s, not %s", got, want)
	}
	runtime.KeepAlive(bytes)
}

// P14.3: a plan that is asked stays, with its spare rooms, and the answers stay when it is written over.
func TestPlansStay(t *testing.T) {
	bytes := []byte("before")
	s := unsafe.String(&bytes[0], len(bytes))
	p := api.Plan{
		Rows:     spare(api.Row{Pseudo: "x"}, api.Row{Steps: spare(api.Step{Comb: 4}, api.Step{}, api.Step{Comb: 3})}, api.Row{Pseudo: s, Steps: []api.Step{{}}}),
		Counters: spare(api.Counter{AB: api.AB{A: 9}}, api.Counter{AB: api.AB{A: 2, B: 4}}),
		Lists:    spare([]int{1}, spare(2, 0, 1), spare(2, 1)),
		Steps:    3,
	}
	pseudos, kept := flat.Pseudos(p), flat.Kept(p)
	heads, rounds := flat.Spans(p)
	if p.Rows[:3][2].Pseudo != "x" || p.Rows[0].Steps[:3][2].Comb != 4 || p.Rows[0].Steps[1].Comb != 3 || p.Counters[:2][1].AB.A != 9 || p.Lists[:3][2][0] != 1 || p.Lists[0][:3][2] != 2 || p.Lists[1][:2][1] != 2 || p.Steps != 3 || string(bytes) != "before" {
		t.Error("the plan was changed")
	}
	overwrite(p.Rows[0].Steps, api.Step{Comb: 77})
	overwrite(p.Rows, api.Row{})
	overwrite(p.Counters, api.Counter{})
	overwrite(p.Lists[0], 0)
	overwrite(p.Lists, nil)
	overwrite(bytes, '#')
	if !slices.Equal(pseudos, []string{"", "before"}) || !slices.Equal(kept, []int{3, 0, 0}) || !slices.Equal(heads, []int{3}) || !slices.Equal(rounds, []int{2}) {
		t.Errorf("%q, %v, %v, %v", pseudos, kept, heads, rounds)
	}
	runtime.KeepAlive(bytes)
}

// room is where a list stands, with its spare room.
type room struct{ from, to uintptr }

func roomOf[T any](list []T) room {
	from := uintptr(unsafe.Pointer(unsafe.SliceData(list)))
	return room{from, from + uintptr(cap(list))*unsafe.Sizeof(*new(T))}
}

// rooms tells where a plan's lists stand.
func rooms(p api.Plan) []room {
	out := []room{roomOf(p.Atoms), roomOf(p.Rows), roomOf(p.Counters), roomOf(p.Lists)}
	var within func(terms []api.Term)
	within = func(terms []api.Term) {
		out = append(out, roomOf(terms))
		for _, x := range terms {
			within(x.Terms)
		}
	}
	for _, r := range p.Rows {
		out = append(out, roomOf(r.Steps))
		for _, s := range r.Steps {
			within(s.Terms)
		}
	}
	for _, c := range p.Counters {
		out = append(out, roomOf(c.Rows))
	}
	for _, l := range p.Lists {
		out = append(out, roomOf(l))
	}
	return out
}

// roomsOf tells where lists stand, and all lists within them.
func roomsOf(list []api.Complex) []room {
	out := []room{roomOf(list)}
	for _, c := range list {
		out = append(out, roomOf(c.List))
		for _, part := range c.List {
			out = append(out, roomOf(part.List))
			for _, s := range part.List {
				out = append(out, roomsOf(s.Of)...)
			}
		}
	}
	return out
}

// checkApart tells of lists whether two of them share memory.
func checkApart(t *testing.T, all []room) {
	t.Helper()
	all = slices.DeleteFunc(all, func(r room) bool { return r.from == r.to })
	slices.SortFunc(all, func(a, b room) int { return cmp.Compare(a.from, b.from) })
	for i := 1; i < len(all); i++ {
		if all[i].from < all[i-1].to {
			t.Fatal("two lists share memory")
		}
	}
}

// P14.3: no two lists of answers share memory, nor does one with an argument's.
func TestListsAreApart(t *testing.T) {
	for seed := range uint32(300) {
		m := maker{seed}
		names, lists := m.names(), m.lists(3)
		one, two := planOf(t, names, lists...), planOf(t, names, lists...)
		all := append(rooms(one), rooms(two)...)
		all = append(all, roomOf(lists), roomOf(names.Prefixes), roomOf(names.Spaces))
		for _, l := range lists {
			all = append(all, roomsOf(l)...)
		}
		pseudos, kept := [][]string{flat.Pseudos(one), flat.Pseudos(one)}, [][]int{flat.Kept(one), flat.Kept(one)}
		heads, rounds := flat.Spans(one)
		kept = append(kept, heads, rounds)
		for _, l := range pseudos {
			all = append(all, roomOf(l))
		}
		for _, l := range kept {
			all = append(all, roomOf(l))
		}
		checkApart(t, all)
		runtime.KeepAlive([]any{lists, names, one, two, pseudos, kept}) // what nobody has any more may give its place to others
	}
}

// P14.3: lists that share memory have plans that don't.
func TestSharedListsArePlannedApart(t *testing.T) {
	inner := list(one(typ("a"), class("x")), one(simple{Kind: api.SelLink}))
	c := then(one(holds(api.SelNot, inner...), holds(api.SelNot, inner...), nth(1, 0, inner...), nth(1, 0, inner...)), api.CombNext, holds(api.SelIs, inner...))
	p := planOf(t, api.Names{}, list(c, c), list(c), inner, inner)
	checkApart(t, rooms(p))
	if len(p.Rows) != 3*(5*2+1)+4 || len(p.Atoms) != 4 || len(p.Counters) != 6 {
		t.Error(told(p))
	}
	runtime.KeepAlive(p)
}

// P1, P2: lists and namespaces of any numbers and texts, and plans such: each call ends, none panics, and twice it answers the same.
func TestWild(t *testing.T) {
	for seed := range uint32(20000) {
		m := maker{seed}
		lists, names := m.wildLists(), m.wildNames()
		got, err := flat.Make(lists, names)
		again, err2 := flat.Make(slices.Clone(lists), names)
		at := slices.IndexFunc(lists, func(l []api.Complex) bool { return sel.Check(l, names) != nil })
		switch {
		case sel.CheckNames(names) != nil:
			if !isFault(err, api.ErrName, 0) || !isFault(err2, api.ErrName, 0) {
				t.Fatalf("%+v, %+v: %v", lists, names, err)
			}
		case at >= 0:
			if !isFault(err, api.ErrArg, at) || !isFault(err2, api.ErrArg, at) {
				t.Fatalf("%+v, %+v: %v, not at %d", lists, names, err, at)
			}
		default:
			checkWords(t, names, lists)
		}
		if told(got) != told(again) || err != nil && told(got) != told(api.Plan{}) {
			t.Fatalf("%+v, %+v: %s", lists, names, told(got))
		}
		p := m.wildPlan()
		heads, rounds := flat.Spans(p)
		heads2, rounds2 := flat.Spans(p)
		if !slices.Equal(flat.Pseudos(p), flat.Pseudos(p)) || !slices.Equal(flat.Kept(p), flat.Kept(p)) || !slices.Equal(heads, heads2) || !slices.Equal(rounds, rounds2) {
			t.Fatalf("%+v: two answers", p)
		}
	}
}

func (m *maker) wildNumber() int {
	return m.number(0, 1, 2, 3, 4, 5, 6, 7, 8, 9, 10, 11, 12, 13, 14, -1, math.MinInt, math.MaxInt, 1<<32, 1000001)
}

func (m *maker) wildNames() api.Names {
	names := api.Names{HasDefault: m.pick(2) == 0, Default: m.text("", "u", "d"), Prefixes: []string{"p", "q"}, Spaces: []string{"v", ""}}
	switch m.pick(12) {
	case 0:
		names.Default = "\xff"
	case 1:
		names.Prefixes = names.Prefixes[:m.pick(2)]
	case 2:
		names.Prefixes[m.pick(2)] = m.text("", "p", "q", "\x00")
	case 3:
		names.Spaces[m.pick(2)] = "\xff"
	}
	return names
}

// wildLists gives lists, some of which aren't right.
func (m *maker) wildLists() [][]api.Complex {
	lists := m.lists(1)
	for i := range lists {
		if m.pick(3) > 0 {
			continue
		}
		c := &lists[i][m.pick(len(lists[i]))]
		part := &c.List[m.pick(len(c.List))]
		s := &part.List[m.pick(len(part.List))]
		switch m.pick(8) {
		case 0:
			lists[i] = nil
		case 1:
			c.List = nil
		case 2:
			part.Comb = m.wildNumber()
		case 3:
			part.List = nil
		case 4:
			s.Kind = m.wildNumber()
		case 5:
			s.NS, s.Prefix = m.wildNumber(), m.text("", "p", "\xff")
		case 6:
			s.Name = m.text("", "\x00", "hover")
		case 7:
			s.AB = api.AB{A: m.wildNumber(), B: m.wildNumber()}
		}
	}
	return lists
}

func (m *maker) wildPlan() api.Plan {
	p := api.Plan{Steps: m.wildNumber()}
	for range m.pick(4) {
		r := api.Row{First: m.wildNumber(), Pseudo: m.text("", "before", "\xff")}
		for range m.pick(3) {
			r.Steps = append(r.Steps, api.Step{Comb: m.wildNumber(), Terms: []api.Term{{Kind: m.wildNumber(), N: m.wildNumber()}}})
		}
		p.Rows = append(p.Rows, r)
		p.Counters = append(p.Counters, api.Counter{AB: api.AB{A: m.wildNumber(), B: m.wildNumber()}, Rows: []int{m.wildNumber()}})
		p.Lists = append(p.Lists, []int{m.wildNumber(), m.wildNumber()})
	}
	return p
}

// P2: what is asked at once by many is answered the same.
func TestAskedAtOnce(t *testing.T) {
	m := maker{3}
	names, lists := m.names(), [][]api.Complex{m.list(3, true), m.list(3, true)}
	p := planOf(t, names, lists...)
	want := told(p) + fmt.Sprint(flat.Kept(p), flat.Pseudos(p))
	done := make(chan bool)
	for range 4 {
		go func() {
			defer func() { done <- true }()
			for range 50 {
				got, err := flat.Make(lists, names)
				if err != nil || told(got)+fmt.Sprint(flat.Kept(p), flat.Pseudos(p)) != want {
					t.Errorf("%s, %v", told(got), err)
				}
			}
		}()
	}
	for range 4 {
		<-done
	}
}
