package step_test

import (
	"fmt"
	"math"
	"slices"
	"strings"
	"testing"

	"wattle/api"
	"wattle/flat"
	"wattle/parse"
)

type simple = api.Simple

// plan gives the plan of lists that are told as texts.
func plan(t *testing.T, texts ...string) api.Plan {
	t.Helper()
	var lists [][]api.Complex
	for _, s := range texts {
		list, err := parse.Selectors([]byte(s), api.Names{})
		if err != nil {
			t.Fatal(s, err)
		}
		lists = append(lists, list)
	}
	return planOf(t, api.Names{}, lists...)
}

func planOf(t *testing.T, names api.Names, lists ...[]api.Complex) api.Plan {
	t.Helper()
	p, err := flat.Make(lists, names)
	if err != nil {
		t.Fatalf("%+v: %v", lists, err)
	}
	return p
}

// truths gives the truths that are told by ones and other signs.
func truths(s string) (out []bool) {
	for _, c := range s {
		out = append(out, c == '1')
	}
	return out
}

func told(list []bool) (out string) {
	for _, is := range list {
		out += map[bool]string{false: "0", true: "1"}[is]
	}
	return out
}

// toldContext tells a context: r of Root, Up, Left, Counts.
func toldContext(c api.Context) string {
	root := map[bool]string{true: "r"}[c.Root]
	return root + "/" + told(c.Up) + "/" + told(c.Left) + "/" + strings.Trim(fmt.Sprint(c.Counts), "[]")
}

func same(a, b api.Context) bool {
	return a.Root == b.Root && slices.Equal(a.Up, b.Up) && slices.Equal(a.Left, b.Left) && slices.Equal(a.Counts, b.Counts)
}

// maker makes plans and what they are asked with by numbers that follow from a seed.
type maker struct{ seed uint32 }

func (m *maker) pick(n int) int {
	m.seed = m.seed*1664525 + 1013904223
	return int(m.seed>>8) % n
}

func (m *maker) text(some ...string) string { return some[m.pick(len(some))] }

func (m *maker) number(some ...int) int { return some[m.pick(len(some))] }

func (m *maker) names() api.Names {
	return []api.Names{{Prefixes: []string{"p", "q"}, Spaces: []string{"u", "v"}}, {HasDefault: true, Default: "u", Prefixes: []string{"q", "p"}, Spaces: []string{"v", ""}}}[m.pick(2)]
}

// lists gives some right lists.
func (m *maker) lists(depth int) (out [][]api.Complex) {
	for range m.pick(4) {
		out = append(out, m.list(depth, true))
	}
	return out
}

// list gives a right list, by itself or within another selector.
func (m *maker) list(depth int, alone bool) (out []api.Complex) {
	for range 1 + m.pick(3) {
		c := api.Complex{List: []api.Compound{{List: m.compound(depth)}}}
		for range m.pick(4) {
			c.List = append(c.List, api.Compound{Comb: 1 + m.pick(4), List: m.compound(depth)})
		}
		if alone && m.pick(4) == 0 {
			last := &c.List[len(c.List)-1]
			last.List = append(last.List, simple{Kind: api.SelPseudo, Name: m.text("before", "after", "backdrop")})
		}
		out = append(out, c)
	}
	return out
}

func (m *maker) compound(depth int) (out []simple) {
	if m.pick(2) == 0 {
		out = append(out, m.spaced([]simple{{Kind: api.SelAny}, {Kind: api.SelType, Name: m.text("a", "b", "area")}}[m.pick(2)]))
	}
	for len(out) == 0 || m.pick(4) == 0 {
		out = append(out, m.simple(depth))
	}
	return out
}

func (m *maker) spaced(s simple) simple {
	if s.NS = m.pick(4); s.NS == api.NSNamed {
		s.Prefix = m.text("p", "q")
	}
	return s
}

// simple gives a simple selector that may stand anywhere.
func (m *maker) simple(depth int) simple {
	s := simple{Kind: m.number(api.SelClass, api.SelID, api.SelAttr, api.SelRoot, api.SelState, api.SelLink, api.SelNth, api.SelNth, api.SelIs, api.SelWhere, api.SelNot, api.SelNot)}
	switch s.Kind {
	case api.SelClass, api.SelID:
		s.Name = m.text("x", "y")
	case api.SelAttr:
		s = m.spaced(s)
		s.Name, s.Cond = m.text("t", "href"), api.Cond{Op: 2 + m.pick(6), Text: m.text("x", "y")}
	case api.SelState:
		s.Name = m.text("hover", "link")
	case api.SelNth:
		s.AB = api.AB{A: m.pick(9) - 4, B: m.pick(9) - 4}
		if depth > 0 && m.pick(2) == 0 {
			s.Of = m.list(depth-1, false)
		}
	case api.SelIs, api.SelWhere, api.SelNot:
		if depth == 0 {
			return simple{Kind: api.SelClass, Name: "x"}
		}
		s.Of = m.list(depth-1, false)
	}
	return s
}

// truths gives as many truths as are asked for, or some other number of them.
func (m *maker) truths(many int) []bool {
	out := make([]bool, m.near(many))
	for i := range out {
		out[i] = m.pick(2) == 0
	}
	return out
}

// near gives mostly the number itself, else one that is near it.
func (m *maker) near(n int) int {
	if m.pick(4) == 0 {
		return max(0, n+m.pick(5)-3)
	}
	return n
}

// context gives any context, with lists that are mostly as long as a plan's.
func (m *maker) context(p api.Plan) api.Context {
	c := api.Context{Root: m.pick(2) == 0, Up: m.truths(p.Steps), Left: m.truths(p.Steps), Counts: make([]int, m.near(len(p.Counters)))}
	for i := range c.Counts {
		c.Counts[i] = m.pick(9)
		if m.pick(8) == 0 {
			c.Counts[i] = m.number(-1, -7, math.MaxInt, math.MaxInt-1, math.MinInt, 1<<40)
		}
	}
	return c
}
