package ask_test

import (
	"slices"
	"testing"

	"wattle/api"
	"wattle/ask"
	"wattle/dom"
	"wattle/match"
	"wattle/parse"
	"wattle/plant"
	"wattle/sel"
)

// enough is a budget for all small lists.
const enough = 1 << 22

// spaces are namespaces of which u and v have prefixes.
func spaces() api.Names {
	return api.Names{Prefixes: []string{"u", "v"}, Spaces: []string{"of u", "of v"}}
}

func list(t *testing.T, s string) []api.Complex {
	t.Helper()
	out, err := parse.Selectors([]byte(s), spaces())
	if err != nil {
		t.Fatal(s, err)
	}
	return out
}

func isFault(err error, kind api.Errno, at int) bool {
	f, ok := err.(*api.Fault)
	return ok && f.Kind == kind && f.At == at
}

// isFailed tells whether a verdict is what stands beside an error: nothing, but for the steps.
func isFailed(v api.Verdict, budget int) bool {
	return v.Kind == 0 && isBare(v) && v.Steps >= 0 && v.Steps <= max(0, budget)
}

// isBare tells whether a verdict is without a witness, and without a way.
func isBare(v api.Verdict) bool {
	return v.Way == 0 && len(v.Doc) == 0 && v.Subject == api.Subject{}
}

func sameVerdict(a, b api.Verdict) bool {
	return a.Kind == b.Kind && a.Way == b.Way && dom.Same(a.Doc, b.Doc) && a.Subject == b.Subject && a.Steps == b.Steps
}

// question is one of the four, asked of two lists (or of one).
type question struct {
	ask   func(budget int) (api.Verdict, error)
	a, b  []api.Complex // b: nothing, where one list is asked about
	names api.Names
	yes   int                        // the Kind of an answer with a witness
	is    []func(inA, inB bool) bool // what a witness is selected by, way by way
	bound int
}

// questions gives the four questions of two lists.
func questions(a, b []api.Complex, names api.Names) []question {
	inA, inBoth := func(a, b bool) bool { return a }, func(a, b bool) bool { return a && b }
	onlyA, onlyB := func(a, b bool) bool { return a && !b }, func(a, b bool) bool { return b && !a }
	two := ask.Bound(a, b, names)
	return []question{
		{func(n int) (api.Verdict, error) { return ask.Satisfiable(a, names, n) }, a, nil, names, api.Yes, []func(a, b bool) bool{inA}, ask.Bound(a, nil, names)},
		{func(n int) (api.Verdict, error) { return ask.Overlap(a, b, names, n) }, a, b, names, api.Yes, []func(a, b bool) bool{inBoth}, two},
		{func(n int) (api.Verdict, error) { return ask.Contained(a, b, names, n) }, a, b, names, api.No, []func(a, b bool) bool{onlyA}, two},
		{func(n int) (api.Verdict, error) { return ask.Equivalent(a, b, names, n) }, a, b, names, api.No, []func(a, b bool) bool{onlyA, onlyB}, two},
	}
}

// holds tells by layer 12 whether a subject is a witness in a way, the first one of which is 0.
func (q question) holds(tree *dom.Tree, way int, s api.Subject) bool {
	return q.is[way](match.Selects(tree, q.a, q.names, s), match.Selects(tree, q.b, q.names, s))
}

// pseudos gives the pseudo-elements of a question's lists, and the empty name.
func (q question) pseudos() []string {
	out := []string{""}
	for _, c := range slices.Concat(q.a, q.b) {
		if s := sel.Pseudo(c); !slices.Contains(out, s) {
			out = append(out, s)
		}
	}
	return out
}

// wanted tells whether an element, or a pseudo-element of it, is a witness in a way.
func (q question) wanted(tree *dom.Tree, way, n int) bool {
	return slices.ContainsFunc(q.pseudos(), func(s string) bool { return q.holds(tree, way, api.Subject{Node: n, Pseudo: s}) })
}

// isSmall tells whether a question needs few steps, so that it can be asked over and over.
func isSmall(q question) bool {
	_, err := q.ask(1 << 11)
	return err == nil
}

// get asks with the budget that is promised to be enough, and with those around what is needed, and holds the answer against the chapter's words.
func (q question) get(t *testing.T) api.Verdict {
	t.Helper()
	v, err := q.ask(q.bound)
	if err != nil || v.Steps > q.bound || v.Kind != api.Yes && v.Kind != api.No {
		t.Fatalf("%+v, %+v: %+v, %v", q.a, q.b, v, err)
	}
	for _, budget := range []int{v.Steps, v.Steps + 1, 1 << 62, 1<<63 - 1} {
		if again, err := q.ask(budget); err != nil || !sameVerdict(v, again) {
			t.Fatalf("%+v, %+v: %+v, then %+v by %d: %v", q.a, q.b, v, again, budget, err)
		}
	}
	for _, budget := range []int{v.Steps - 1, v.Steps / 2, 0, -1, -1 << 63} {
		if less, err := q.ask(budget); !isFault(err, api.ErrLimit, 0) || !isFailed(less, budget) {
			t.Fatalf("%+v, %+v: %+v by %d of %d: %v", q.a, q.b, less, budget, v.Steps, err)
		}
	}
	if v.Kind == q.yes {
		q.checkWitness(t, v)
	} else if !isBare(v) {
		t.Fatalf("%+v, %+v: %+v", q.a, q.b, v)
	}
	return v
}

// way gives the place of the way in which a verdict's witness is one.
func (q question) way(v api.Verdict) int {
	if len(q.is) == 1 {
		return 0
	}
	return v.Way - api.WayFirst
}

// checkWitness tells whether a verdict's subject is a witness, of which nothing can be left out.
func (q question) checkWitness(t *testing.T, v api.Verdict) {
	t.Helper()
	way := q.way(v)
	if (v.Way == api.WayNone) != (len(q.is) == 1) || way < 0 || way >= len(q.is) || len(v.Doc) >= v.Steps {
		t.Fatalf("%+v, %+v: %+v", q.a, q.b, v)
	}
	tree, err := dom.New(v.Doc)
	if err != nil || !q.holds(tree, way, v.Subject) {
		t.Fatalf("%+v, %+v: %+v, %v", q.a, q.b, v, err)
	}
	thin, n, err := plant.Thin(v.Doc, v.Subject.Node, func(doc []api.Node, n int) bool {
		tree, err := dom.New(doc)
		return err == nil && q.wanted(tree, way, n)
	})
	if err != nil || n != v.Subject.Node || !dom.Same(thin, v.Doc) {
		t.Fatalf("%+v, %+v: %+v, then %+v: %v", q.a, q.b, v, thin, err)
	}
}

// maker makes lists and documents by numbers that follow from a seed. A rich one asks for more than elements a, and those with the class x.
type maker struct {
	seed uint32
	rich bool
}

func (m *maker) pick(n int) int {
	m.seed = m.seed*1664525 + 1013904223
	return int(m.seed>>8) % n
}

func one[T any](m *maker, some ...T) T { return some[m.pick(len(some))] }

// list gives a right list, by itself or within another selector.
func (m *maker) list(depth int, alone bool) (out []api.Complex) {
	for range one(m, 1, 1, 2) {
		c := api.Complex{List: []api.Compound{{List: m.compound(depth)}}}
		for range one(m, 0, 0, 0, 1, 1, 2) {
			c.List = append(c.List, api.Compound{Comb: 1 + m.pick(4), List: m.compound(depth)})
		}
		if alone && m.pick(5) == 0 {
			last := &c.List[len(c.List)-1]
			last.List = append(last.List, api.Simple{Kind: api.SelPseudo, Name: one(m, "before", "after")})
		}
		out = append(out, c)
	}
	return out
}

func (m *maker) compound(depth int) (out []api.Simple) {
	if m.pick(2) == 0 {
		out = append(out, one(m, api.Simple{Kind: api.SelAny}, api.Simple{Kind: api.SelType, Name: "a"}))
	}
	if m.rich && len(out) > 0 && m.pick(4) == 0 {
		out[0].NS, out[0].Prefix = api.NSNamed, "v"
	}
	for len(out) == 0 || m.pick(4) == 0 {
		out = append(out, m.simple(depth))
	}
	return out
}

func (m *maker) simple(depth int) api.Simple {
	if m.rich && m.pick(2) == 0 {
		return m.richSimple()
	}
	kind := one(m, api.SelClass, api.SelClass, api.SelRoot, api.SelNth, api.SelIs, api.SelWhere, api.SelNot, api.SelNot)
	s := api.Simple{Kind: kind}
	switch kind {
	case api.SelNth:
		s.AB = api.AB{A: m.pick(5) - 2, B: m.pick(5) - 1}
		if depth > 0 && m.pick(2) == 0 {
			s.Of = m.list(depth-1, false)
		}
	case api.SelIs, api.SelWhere, api.SelNot:
		if depth == 0 {
			return api.Simple{Kind: api.SelClass, Name: "x"}
		}
		s.Of = m.list(depth-1, false)
	case api.SelClass:
		s.Name = "x"
	}
	return s
}

func (m *maker) richSimple() api.Simple {
	cond := api.Cond{Op: one(m, api.OpIs, api.OpBegin, api.OpPart, api.OpWord), Text: one(m, "x", "y")}
	return one(m, api.Simple{Kind: api.SelID, Name: "i"}, api.Simple{Kind: api.SelState, Name: "hover"}, api.Simple{Kind: api.SelState, Name: "focus"}, api.Simple{Kind: api.SelClass, Name: "y"}, api.Simple{Kind: api.SelLink}, api.Simple{Kind: api.SelAttr, Name: one(m, "t", "href"), Cond: api.Cond{Op: api.OpHas}}, api.Simple{Kind: api.SelAttr, Name: "t", Cond: cond}, api.Simple{Kind: api.SelAttr, Name: "t", NS: api.NSNamed, Prefix: "u", Cond: cond})
}

// two gives two lists, and the namespaces that they are in.
func (m *maker) two() (a, b []api.Complex, names api.Names) {
	names = spaces()
	if m.rich && m.pick(4) == 0 {
		names.HasDefault, names.Default = true, "of v"
	}
	return m.list(m.pick(3)*m.pick(2), true), m.list(m.pick(3)*m.pick(2), true), names
}

// kinds are the elements that lists that aren't rich tell apart.
func kinds() (out []api.Node) {
	for _, name := range []string{"a", "b"} {
		for _, attrs := range [][]api.Attr{nil, {{Name: "class", Value: "x"}}} {
			out = append(out, api.Node{Parent: -1, Kind: api.NodeElement, Name: name, Attrs: attrs})
		}
	}
	return out
}

// element gives an element like those that lists ask for.
func (m *maker) element() api.Node {
	if !m.rich {
		return one(m, kinds()...)
	}
	n := api.Node{Parent: -1, Kind: api.NodeElement, Space: one(m, "", "", "of v"), Name: one(m, "a", "b", "area")}
	for _, a := range []api.Attr{{Name: "class", Value: one(m, "x", "y", "x y")}, {Name: "id", Value: "i"}, {Name: "href"}, {Name: "t", Value: one(m, "x", "y", "xy", "y x")}, {Space: "of u", Name: "t", Value: one(m, "x", "y")}} {
		if m.pick(2) == 0 {
			n.Attrs = append(n.Attrs, a)
		}
	}
	for _, s := range []string{"hover", "focus"} {
		if m.pick(3) == 0 {
			n.States = append(n.States, s)
		}
	}
	return n
}

// doc gives a right document of such elements, and of texts.
func (m *maker) doc(size int) []api.Node {
	doc, elements := []api.Node{m.element()}, []int{0}
	for n := 1; n < size; n++ {
		x, parent := m.element(), one(m, elements...)
		if m.pick(6) == 0 {
			x = api.Node{Kind: api.NodeText, Text: "t"}
		} else {
			elements = append(elements, n)
		}
		x.Parent = parent
		doc = append(doc, x)
	}
	return doc
}
