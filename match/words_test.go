package match_test

import (
	"math"
	"slices"
	"testing"

	"wattle/api"
	"wattle/match"
	"wattle/sel"
	"wattle/value"
)

// elements are the pseudo-elements, by layer 8.
var elements = []string{"before", "after", "first-line", "first-letter", "marker", "selection", "placeholder", "backdrop"}

// words tells what selectors select in a document by the chapter's words, one by one.
type words struct {
	doc   []node
	names api.Names
}

func (w words) isElement(n int) bool {
	return n >= 0 && n < len(w.doc) && w.doc[n].Kind == api.NodeElement
}

func (w words) row(n int) []int {
	var row []int
	for m := range n + 1 {
		if w.isElement(m) && w.doc[m].Parent == w.doc[n].Parent {
			row = append(row, m)
		}
	}
	return row
}

// related are the elements to which one stands by a Comb.
func (w words) related(comb, n int) []int {
	var above []int
	for m := w.doc[n].Parent; m >= 0; m = w.doc[m].Parent {
		above = append(above, m)
	}
	row := w.row(n)
	ahead := row[:len(row)-1]
	switch comb {
	case api.CombBelow:
		return above
	case api.CombChild:
		return above[:min(1, len(above))]
	case api.CombLater:
		return ahead
	case api.CombNext:
		return ahead[max(0, len(ahead)-1):]
	}
	return nil
}

func (w words) selects(c api.Complex, s subject) bool {
	return w.isElement(s.Node) && sel.Pseudo(c) == s.Pseudo && w.fits(c.List, s.Node)
}

func (w words) fits(list []api.Compound, n int) bool {
	if len(list) == 0 {
		return false
	}
	last := list[len(list)-1]
	for _, s := range last.List {
		if !w.simple(s, n) {
			return false
		}
	}
	return len(list) == 1 || slices.ContainsFunc(w.related(last.Comb, n), func(m int) bool { return w.fits(list[:len(list)-1], m) })
}

func (w words) list(list []api.Complex, n int) bool {
	for _, c := range list {
		if w.selects(c, subject{Node: n}) {
			return true
		}
	}
	return false
}

// inPlace tells whether a namespace is in place; none is that which a name without a prefix wants.
func (w words) inPlace(space string, s simple, none bool) bool {
	i := slices.Index(w.names.Prefixes, s.Prefix)
	switch {
	case s.NS == api.NSNone:
		return none
	case s.NS == api.NSAny:
		return true
	case s.NS == api.NSEmpty:
		return space == ""
	}
	return s.NS == api.NSNamed && i >= 0 && space == append(slices.Clone(w.names.Spaces), make([]string, i+1)...)[i]
}

func (w words) simple(s simple, n int) bool {
	if !w.isElement(n) {
		return false
	}
	x := w.doc[n]
	attr := func(name string, is func(string) bool) bool {
		return slices.ContainsFunc(x.Attrs, func(a api.Attr) bool { return a.Space == "" && a.Name == name && is(a.Value) })
	}
	none := !w.names.HasDefault || x.Space == w.names.Default
	switch s.Kind {
	case api.SelType:
		return x.Name == s.Name && w.inPlace(x.Space, s, none)
	case api.SelAny:
		return w.inPlace(x.Space, s, none)
	case api.SelClass:
		return attr("class", func(v string) bool { return value.Holds(api.Cond{Op: api.OpWord, Text: s.Name}, v) })
	case api.SelID:
		return attr("id", func(v string) bool { return v == s.Name })
	case api.SelAttr:
		return slices.ContainsFunc(x.Attrs, func(a api.Attr) bool {
			return a.Name == s.Name && w.inPlace(a.Space, s, a.Space == "") && value.Holds(s.Cond, a.Value)
		})
	case api.SelRoot:
		return x.Parent == -1
	case api.SelState:
		return slices.Contains(x.States, s.Name)
	case api.SelLink:
		return (x.Name == "a" || x.Name == "area") && none && attr("href", func(string) bool { return true })
	case api.SelNth:
		return w.nth(s, n)
	case api.SelIs, api.SelWhere:
		return w.list(s.Of, n)
	case api.SelNot:
		return !w.list(s.Of, n)
	}
	return s.Kind == api.SelPseudo
}

func (w words) nth(s simple, n int) bool {
	count := 0
	for _, m := range w.row(n) {
		if len(s.Of) == 0 || w.list(s.Of, m) {
			count++
		}
	}
	if len(s.Of) > 0 && !w.list(s.Of, n) {
		return false
	}
	for k := range count + 100 {
		if s.AB.A*k+s.AB.B == count {
			return true
		}
	}
	return false
}

func (w words) all(list []api.Complex) []subject {
	var out []subject
	for n := range w.doc {
		for _, name := range append([]string{""}, elements...) {
			if slices.ContainsFunc(list, func(c api.Complex) bool { return w.selects(c, of(n, name)) }) {
				out = append(out, of(n, name))
			}
		}
	}
	return out
}

func (w words) spec(list []api.Complex, s subject) (most api.Spec, ok bool) {
	for _, c := range list {
		if w.selects(c, s) && (!ok || sel.Less(most, sel.Spec(c))) {
			most, ok = sel.Spec(c), true
		}
	}
	return
}

// checkWords holds all that is told of a list against the chapter's words, and gives how many subjects it selects.
func checkWords(t *testing.T, w words, list []api.Complex, places ...subject) int {
	t.Helper()
	d := tree(t, w.doc...)
	all := match.All(d, list, w.names)
	if want := w.all(list); !slices.Equal(all, want) {
		t.Errorf("%+v, %+v: All: %v, not %v", w, list, all, want)
	}
	for _, s := range places {
		want, some := w.spec(list, s)
		spec, ok := match.Spec(d, list, w.names, s)
		if got := match.Selects(d, list, w.names, s); got != some || spec != want || ok != some {
			t.Errorf("%+v, %+v, %v: %v, %v, %v, not %v, %v", w, list, s, got, spec, ok, want, some)
		}
		for _, c := range list {
			checkComplex(t, w, c, s)
		}
	}
	return len(all)
}

// checkComplex holds what is told of a selector, and of its simple selectors, against the chapter's words.
func checkComplex(t *testing.T, w words, c api.Complex, s subject) {
	t.Helper()
	d := tree(t, w.doc...)
	if got, want := match.Complex(d, c, w.names, s), w.selects(c, s); got != want {
		t.Errorf("%+v, %+v, %v: Complex: %v", w, c, s, got)
	}
	for _, part := range c.List {
		for _, x := range part.List {
			if got, want := match.Simple(d, x, w.names, s.Node), w.simple(x, s.Node); got != want {
				t.Errorf("%+v, %+v, %v: Simple: %v", w, x, s, got)
			}
		}
	}
}

// maker makes documents and selectors by numbers that follow from a seed.
type maker struct{ seed uint32 }

func (m *maker) pick(n int) int {
	m.seed = m.seed*1664525 + 1013904223
	return int(m.seed>>8) % n
}

func (m *maker) text(some ...string) string { return some[m.pick(len(some))] }

func (m *maker) doc(most int) []node {
	top := m.pick(2)
	doc := slices.Repeat([]node{comment(-1)}, top)
	doc = append(doc, m.element(-1))
	for len(doc) < most {
		parent := top + m.pick(len(doc)-top)
		if doc[parent].Kind != api.NodeElement {
			parent = top
		}
		switch m.pick(8) {
		case 0:
			doc = append(doc, text(parent))
		case 1:
			doc = append(doc, comment(parent))
		default:
			doc = append(doc, m.element(parent))
		}
	}
	return doc
}

func (m *maker) element(parent int) node {
	n := within(m.text("", "", "u", "v"), el(parent, m.text("a", "b", "area")))
	for _, name := range []string{"class", "id", "href", "t"} {
		if m.pick(3) == 0 {
			n.Attrs = append(n.Attrs, api.Attr{Space: m.text("", "", "u"), Name: name, Value: m.text("", "x", "y", "x y", "x-y", "X")})
		}
	}
	if m.pick(4) == 0 {
		n.Attrs = append(n.Attrs, api.Attr{Space: "v", Name: m.text("t", "class", "id"), Value: m.text("x", "y")})
	}
	if m.pick(3) == 0 {
		n.States = []string{m.text("hover", "focus")}
	}
	return n
}

func (m *maker) names() api.Names {
	return []api.Names{{}, {HasDefault: true, Default: "u", Prefixes: []string{"p"}, Spaces: []string{"v"}}, {HasDefault: true}, {Default: "u", Prefixes: []string{"p", "q", "p"}, Spaces: []string{"u", ""}}, {Prefixes: []string{"q", "p"}, Spaces: []string{"u"}}}[m.pick(5)]
}

func (m *maker) list(depth int) []api.Complex {
	var out []api.Complex
	for range 1 + m.pick(3) {
		c := one(m.compound(depth)...)
		for range m.pick(3) {
			c = then(c, 1+m.pick(4), m.compound(depth)...)
		}
		if m.pick(4) == 0 {
			last := &c.List[len(c.List)-1]
			last.List = append(last.List, pseudo(m.text("before", "after", "backdrop")))
		}
		out = append(out, c)
	}
	return out
}

func (m *maker) compound(depth int) []simple {
	var out []simple
	for range 1 + m.pick(4)/3 {
		out = append(out, m.simple(depth))
	}
	return out
}

func (m *maker) simple(depth int) simple {
	s := simple{Kind: 1 + m.pick(9), Name: m.text("a", "b")}
	switch m.pick(3) {
	case 0:
		s = spaced(m.pick(4), m.text("p", "q"), s)
	case 1:
		if depth > 0 {
			s = holds(m.number(api.SelIs, api.SelWhere, api.SelNot, api.SelNth), m.list(depth-1)...)
		}
	}
	switch s.Kind {
	case api.SelClass, api.SelID:
		s.Name = m.text("x", "y", "x y")
	case api.SelAttr:
		s.Name, s.Cond = m.text("t", "class", "id"), api.Cond{Op: 1 + m.pick(7), Text: m.text("x", "y", ""), Fold: m.pick(2) == 0}
	case api.SelState:
		s.Name = m.text("hover", "focus")
	case api.SelNth:
		s.AB = api.AB{A: m.pick(7) - 3, B: m.pick(7) - 3}
	case api.SelRoot:
		if m.pick(3) > 0 {
			s.Kind = api.SelLink
		}
	}
	return s
}

func (m *maker) number(some ...int) int { return some[m.pick(len(some))] }

// subjects are some subjects of a document, and some that aren't.
func (m *maker) subjects(size int) []subject {
	var out []subject
	for n := -1; n <= size; n++ {
		out = append(out, subject{Node: n}, of(n, m.text("before", "after", "backdrop", "marker", "x")))
	}
	return append(out, subject{Node: math.MinInt}, of(math.MaxInt, "before"))
}

// P12.1, P12.2: many documents and lists of all kinds, held against the chapter's words.
func TestListsByWords(t *testing.T) {
	some := 0
	for seed := range uint32(12000) {
		m := maker{seed}
		w := words{m.doc(1 + m.pick(9)), m.names()}
		if checkWords(t, w, m.list(2), m.subjects(len(w.doc))...) > 0 {
			some++
		}
	}
	if some < 2000 {
		t.Errorf("just %d lists select something", some)
	}
}

// P1, P12.1: lists that aren't right select by the words, too.
func TestWrongListsByWords(t *testing.T) {
	some := 0
	for seed := range uint32(12000) {
		m := maker{seed}
		w := words{m.doc(1 + m.pick(7)), m.names()}
		list := m.list(1)
		for range 1 + m.pick(3) {
			m.spoil(list)
		}
		if checkWords(t, w, list, m.subjects(len(w.doc))...) > 0 {
			some++
		}
	}
	if some < 1500 {
		t.Errorf("just %d lists select something", some)
	}
}

// spoil changes one thing of a list.
func (m *maker) spoil(list []api.Complex) {
	c := &list[m.pick(len(list))]
	numbers := []int{-1, 0, 5, 14, 99, math.MinInt, math.MaxInt, 1 << 32, 1<<32 + 1}
	if m.pick(12) == 0 || len(c.List) == 0 {
		c.List = nil
		return
	}
	part := &c.List[m.pick(len(c.List))]
	if m.pick(4) == 0 {
		part.Comb = m.number(append(numbers, 1, 2, 3, 4)...)
	}
	if m.pick(6) == 0 || len(part.List) == 0 {
		part.List = nil
		return
	}
	s := &part.List[m.pick(len(part.List))]
	switch m.pick(7) {
	case 0:
		s.Kind = m.number(numbers...)
	case 1:
		s.NS, s.Prefix = m.number(numbers...), "p"
	case 2:
		s.NS, s.Prefix = api.NSNamed, m.text("", "q", "z")
	case 3:
		s.Name = m.text("", "\xff", "before")
	case 4:
		s.Cond.Op, s.Mark = m.number(numbers...), api.MarkFold
	case 5:
		s.Of = nil
	case 6:
		part.List = append([]simple{pseudo(m.text("after", "x", ""))}, part.List...)
	}
}

// P12.1: all documents of four elements of two names, and all selectors of three compounds of these.
func TestCombsByWords(t *testing.T) {
	var selectors []api.Complex
	parts := []simple{typ("a"), typ("b"), {Kind: api.SelAny}}
	for _, a := range parts {
		for _, b := range parts {
			for _, c := range parts {
				for comb := range 16 {
					selectors = append(selectors, then(then(one(a), 1+comb%4, b), 1+comb/4, c))
				}
			}
		}
	}
	for shape := range 6 {
		for names := range 16 {
			doc := []node{el(-1, "a")}
			for i, parent := range []int{0, shape % 2, shape / 2} {
				doc[0].Name = string(rune('a' + names>>3))
				doc = append(doc, el(parent, string(rune('a'+names>>i&1))))
			}
			d := tree(t, doc...)
			w := words{doc: doc}
			for _, c := range selectors {
				if got, want := match.All(d, list(c), api.Names{}), w.all(list(c)); !slices.Equal(got, want) {
					t.Errorf("%v, %v: %v, not %v", doc, c, got, want)
				}
				for n := range doc {
					if got, want := match.Complex(d, c, api.Names{}, subject{Node: n}), w.selects(c, subject{Node: n}); got != want {
						t.Errorf("%v, %v, %d: %v", doc, c, n, got)
					}
				}
			}
		}
	}
}
