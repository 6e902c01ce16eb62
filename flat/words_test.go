package flat_test

import (
	"fmt"
	"slices"
	"testing"

	"wattle/api"
	"wattle/flat"
	"wattle/sel"
)

// words goes through lists by the chapter's words, and tells what plan they have.
type words struct {
	names    api.Names
	atoms    []api.Atom
	rows     []string
	combs    []int // of each step, that of the step behind
	counters []string
}

// list tells the numbers of a list's rows.
func (w *words) list(list []api.Complex) (numbers []int) {
	for _, c := range list {
		var row []api.Step
		pseudo := ""
		for _, part := range c.List {
			var terms []api.Term
			for _, s := range part.List {
				terms = append(terms, w.simple(s))
				if s.Kind == api.SelPseudo {
					pseudo = s.Name
				}
			}
			row = append(row, api.Step{Comb: part.Comb, Terms: terms})
		}
		w.rows = append(w.rows, toldRow(api.Row{First: len(w.combs), Steps: row, Pseudo: pseudo}))
		for _, part := range c.List[1:] {
			w.combs = append(w.combs, part.Comb)
		}
		w.combs = append(w.combs, 0)
		numbers = append(numbers, len(w.rows)-1)
	}
	return numbers
}

func (w *words) atom(a api.Atom) api.Term {
	if !slices.Contains(w.atoms, a) {
		w.atoms = append(w.atoms, a)
	}
	return api.Term{Kind: api.TermAtom, N: slices.Index(w.atoms, a)}
}

// inSpace gives an atom the namespace of a simple selector; none is that of NSNone, * is any.
func (w *words) inSpace(s simple, none string, a api.Atom) api.Atom {
	space := map[int]string{api.NSNone: none, api.NSAny: "*", api.NSEmpty: ""}[s.NS]
	for i, prefix := range w.names.Prefixes {
		if s.NS == api.NSNamed && prefix == s.Prefix {
			space = w.names.Spaces[i]
		}
	}
	if space != "*" {
		a.HasSpace, a.Space = true, space
	}
	return a
}

func (w *words) simple(s simple) api.Term {
	none := "*"
	if w.names.HasDefault {
		none = w.names.Default
	}
	element := func(name string) api.Term { return w.atom(w.inSpace(s, none, api.Atom{Kind: 1, Name: name})) }
	plain := func(name string, op int, text string) api.Term {
		return w.atom(api.Atom{Kind: 2, HasSpace: true, Name: name, Cond: api.Cond{Op: op, Text: text}})
	}
	not := func(x api.Term) api.Term { return api.Term{Kind: 3, Terms: []api.Term{x}} }
	either := func(x ...api.Term) api.Term { return api.Term{Kind: 4, Terms: x} }
	switch s.Kind {
	case api.SelType:
		return element(s.Name)
	case api.SelAny:
		if s.NS == api.NSAny || s.NS == api.NSNone && none == "*" {
			return api.Term{Kind: 7}
		}
		return element("")
	case api.SelClass:
		return plain("class", api.OpWord, s.Name)
	case api.SelID:
		return plain("id", api.OpIs, s.Name)
	case api.SelAttr:
		return w.atom(w.inSpace(s, "", api.Atom{Kind: 2, Name: s.Name, Cond: s.Cond}))
	case api.SelState:
		return w.atom(api.Atom{Kind: 3, Name: s.Name})
	case api.SelRoot:
		return api.Term{Kind: 6}
	case api.SelLink:
		a := element("a")
		area := element("area")
		return not(either(not(either(a, area)), not(plain("href", api.OpHas, ""))))
	case api.SelPseudo:
		return api.Term{Kind: 7}
	}
	numbers := w.list(s.Of)
	if s.Kind == api.SelNth {
		w.counters = append(w.counters, fmt.Sprint(s.AB, numbers))
		return api.Term{Kind: 5, N: len(w.counters) - 1}
	}
	var rows []api.Term
	for _, n := range numbers {
		rows = append(rows, api.Term{Kind: 2, N: n})
	}
	if s.Kind == api.SelNot {
		return not(either(rows...))
	}
	return either(rows...)
}

// checkWords holds the plan of lists against the chapter's words.
func checkWords(t *testing.T, names api.Names, lists [][]api.Complex) {
	t.Helper()
	p := planOf(t, names, lists...)
	w := words{names: names}
	var numbers [][]int
	for _, l := range lists {
		numbers = append(numbers, w.list(l))
	}
	var rows, counters, pseudos []string
	for _, r := range p.Rows {
		rows = append(rows, toldRow(r))
	}
	for _, c := range p.Counters {
		counters = append(counters, fmt.Sprint(c.AB, c.Rows))
	}
	for _, c := range slices.Concat(lists...) {
		if name := sel.Pseudo(c); !slices.Contains(pseudos, name) {
			pseudos = append(pseudos, name)
		}
	}
	if !slices.Equal(p.Atoms, w.atoms) || !slices.Equal(rows, w.rows) || !slices.Equal(counters, w.counters) || fmt.Sprint(p.Lists) != fmt.Sprint(numbers) || p.Steps != len(w.combs) {
		t.Fatalf("%+v, %+v:\n%s, not\n%+v, %v", names, lists, told(p), w, numbers)
	}
	if got := flat.Kept(p); !slices.Equal(got, w.combs) {
		t.Fatalf("%s: %v", told(p), got)
	}
	if got := flat.Pseudos(p); !slices.Equal(got, pseudos) {
		t.Fatalf("%s: %v", told(p), got)
	}
	heads, rounds := flat.Spans(p)
	if len(heads) != len(p.Counters) || len(rounds) != len(p.Counters) {
		t.Fatalf("%s: %v, %v", told(p), heads, rounds)
	}
	for i, c := range p.Counters {
		checkSpan(t, c.AB, heads[i], rounds[i])
	}
}

// checkSpan holds a span against what layer 5 says of one An+B.
func checkSpan(t *testing.T, x api.AB, head, round int) {
	t.Helper()
	wantHead, wantRound := max(0, x.B), max(1, x.A, -x.A)
	if x.A > 0 {
		wantHead = max(0, x.B-1)
	}
	if head != wantHead || round != wantRound {
		t.Fatalf("%v: %d, %d", x, head, round)
	}
}

// P14.1, P14.2: many lists of all kinds, held against the chapter's words.
func TestListsByWords(t *testing.T) {
	for seed := range uint32(6000) {
		m := maker{seed}
		checkWords(t, m.names(), m.lists(m.pick(4)))
	}
}

// P14.1: each kind of simple selector in each way in which its name may stand, one by one and two by two.
func TestPairsByWords(t *testing.T) {
	var all []simple
	for way := range 3 {
		all = append(all, spaced(way, "", typ("a")), spaced(way, "", typ("href")), spaced(way, "", simple{Kind: api.SelAny}), spaced(way, "", attr("href", api.OpHas, "")), spaced(way, "", attr("class", api.OpWord, "a")), spaced(way, "", attr("id", api.OpIs, "a")))
	}
	for _, prefix := range spaces().Prefixes {
		all = append(all, spaced(api.NSNamed, prefix, typ("a")), spaced(api.NSNamed, prefix, simple{Kind: api.SelAny}), spaced(api.NSNamed, prefix, attr("id", api.OpIs, "a")))
	}
	all = append(all, class("a"), class("hover"), id("a"), state("hover"), simple{Kind: api.SelRoot}, simple{Kind: api.SelLink}, nth(0, 1), nth(2, 0, one(typ("a"))), nth(1, 0, one(nth(1, 0))), holds(api.SelIs, one(class("a"))), holds(api.SelWhere, one(id("a"))), holds(api.SelNot, one(typ("a")), one(simple{Kind: api.SelLink})))
	with, without := spaces(), spaces()
	without.HasDefault = false
	for _, names := range []api.Names{with, without} {
		for _, a := range all {
			checkWords(t, names, [][]api.Complex{list(one(a)), list(one(a), one(a))})
			for _, b := range all {
				checkWords(t, names, [][]api.Complex{list(then(one(a), api.CombLater, b)), list(one(holds(api.SelNot, one(b))), one(a))})
			}
		}
	}
}
