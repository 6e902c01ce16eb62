package flat_test

import (
	"strconv"
	"strings"
	"testing"

	"wattle/api"
	"wattle/flat"
	"wattle/parse"
)

type simple = api.Simple

func typ(name string) simple    { return simple{Kind: api.SelType, Name: name} }
func class(name string) simple  { return simple{Kind: api.SelClass, Name: name} }
func id(name string) simple     { return simple{Kind: api.SelID, Name: name} }
func state(name string) simple  { return simple{Kind: api.SelState, Name: name} }
func pseudo(name string) simple { return simple{Kind: api.SelPseudo, Name: name} }
func nth(a, b int, of ...api.Complex) simple {
	return simple{Kind: api.SelNth, AB: api.AB{A: a, B: b}, Of: of}
}
func holds(kind int, of ...api.Complex) simple { return simple{Kind: kind, Of: of} }

func attr(name string, op int, text string) simple {
	return simple{Kind: api.SelAttr, Name: name, Cond: api.Cond{Op: op, Text: text}}
}

// spaced gives a simple selector with a namespace.
func spaced(way int, prefix string, s simple) simple {
	s.NS, s.Prefix = way, prefix
	return s
}

// one gives a selector of one compound.
func one(list ...simple) api.Complex { return api.Complex{List: []api.Compound{{List: list}}} }

// then gives a selector with one more compound.
func then(c api.Complex, comb int, list ...simple) api.Complex {
	return api.Complex{List: append(c.List[:len(c.List):len(c.List)], api.Compound{Comb: comb, List: list})}
}

func list(some ...api.Complex) []api.Complex { return some }

// spaces are namespaces with a default one.
func spaces() api.Names {
	return api.Names{HasDefault: true, Default: "d", Prefixes: []string{"p", "q", "r"}, Spaces: []string{"u", "", "d"}}
}

// plan gives the plan of lists that are told as texts.
func plan(t *testing.T, names api.Names, texts ...string) api.Plan {
	t.Helper()
	var lists [][]api.Complex
	for _, s := range texts {
		some, err := parse.Selectors([]byte(s), names)
		if err != nil {
			t.Fatal(s, err)
		}
		lists = append(lists, some)
	}
	return planOf(t, names, lists...)
}

func planOf(t *testing.T, names api.Names, lists ...[]api.Complex) api.Plan {
	t.Helper()
	p, err := flat.Make(lists, names)
	if err != nil {
		t.Fatalf("%+v: %v", lists, err)
	}
	return p
}

// isFault tells whether an error is just a Fault of a kind at a place.
func isFault(err error, kind api.Errno, at int) bool {
	f, ok := err.(*api.Fault)
	return ok && *f == api.Fault{Kind: kind, At: at}
}

// told gives a plan as a text: its atoms, rows, counters and lists, and how many steps it has.
func told(p api.Plan) string {
	var atoms, rows, counters []string
	for _, a := range p.Atoms {
		atoms = append(atoms, toldAtom(a))
	}
	for _, r := range p.Rows {
		rows = append(rows, toldRow(r))
	}
	for _, c := range p.Counters {
		counters = append(counters, strconv.Itoa(c.AB.A)+"n"+strconv.Itoa(c.AB.B)+toldNumbers(c.Rows))
	}
	lists := ""
	for _, l := range p.Lists {
		lists += toldNumbers(l)
	}
	return strings.Join([]string{strings.Join(atoms, " "), strings.Join(rows, "; "), strings.Join(counters, " "), lists, strconv.Itoa(p.Steps)}, " / ")
}

func toldNumbers(list []int) string {
	out := "["
	for i, n := range list {
		out += strings.Repeat(" ", min(i, 1)) + strconv.Itoa(n)
	}
	return out + "]"
}

// toldAtom tells an atom: its kind (T, S for a state, @ for an attribute), ahead of a | its namespace, its name, and behind a sign of the operator the text (with a +i of Fold).
func toldAtom(a api.Atom) string {
	out := [...]string{1: "T:", 2: "@", 3: "S:"}[a.Kind]
	switch {
	case a.HasSpace:
		out += a.Space + "|"
	case a.Space != "":
		out += "?" + a.Space + "?"
	}
	out += a.Name
	if a.Cond != (api.Cond{}) {
		out += [...]string{1: "!", 2: "=", 3: "~", 4: "-", 5: "^", 6: "$", 7: "*"}[a.Cond.Op] + a.Cond.Text
	}
	if a.Cond.Fold {
		out += "+i"
	}
	return out
}

// toldRow tells a row: the number of its first step, the steps with the sign of each Comb ahead, the pseudo-element.
func toldRow(r api.Row) string {
	out := strconv.Itoa(r.First) + ":"
	for _, s := range r.Steps {
		out += [...]string{"", " _ ", " > ", " + ", " ~ "}[s.Comb] + toldTerms(s.Terms, " ")
	}
	if r.Pseudo != "" {
		out += "::" + r.Pseudo
	}
	return out
}

func toldTerms(terms []api.Term, between string) string {
	var out []string
	for _, x := range terms {
		out = append(out, toldTerm(x))
	}
	return strings.Join(out, between)
}

// toldTerm tells a term: a letter and the number of an atom, a row, a counter, and signs of the others.
func toldTerm(x api.Term) string {
	out := [...]string{0: "?", api.TermAtom: "a", api.TermRow: "r", api.TermNot: "!", api.TermAny: "any", api.TermCount: "c", api.TermRoot: "root", api.TermTrue: "true"}[x.Kind]
	if x.Kind == api.TermAtom || x.Kind == api.TermRow || x.Kind == api.TermCount || x.N != 0 {
		out += strconv.Itoa(x.N)
	}
	if len(x.Terms) > 0 || x.Kind == api.TermAny {
		out += "(" + toldTerms(x.Terms, ",") + ")"
	}
	return out
}

// maker makes lists of selectors by numbers that follow from a seed.
type maker struct{ seed uint32 }

func (m *maker) pick(n int) int {
	m.seed = m.seed*1664525 + 1013904223
	return int(m.seed>>8) % n
}

func (m *maker) text(some ...string) string { return some[m.pick(len(some))] }

func (m *maker) number(some ...int) int { return some[m.pick(len(some))] }

func (m *maker) names() api.Names {
	return []api.Names{{Prefixes: []string{"q", "p"}, Spaces: []string{"u", "v"}}, {HasDefault: true, Default: "u", Prefixes: []string{"p", "q"}, Spaces: []string{"v", ""}}, {HasDefault: true, Prefixes: []string{"p", "q"}, Spaces: []string{"", "u"}}, {Default: "u", Prefixes: []string{"p", "q", "x"}, Spaces: []string{"u", "u", "u"}}}[m.pick(4)]
}

// lists gives some right lists.
func (m *maker) lists(depth int) (out [][]api.Complex) {
	for range m.pick(4) {
		out = append(out, m.list(depth, true))
	}
	return out
}

// list gives a right list, by itself or within another selector.
func (m *maker) list(depth int, alone bool) (out []api.Complex) {
	for range 1 + m.pick(3) {
		c := one(m.compound(depth)...)
		for range m.pick(3) {
			c = then(c, 1+m.pick(4), m.compound(depth)...)
		}
		if alone && m.pick(3) == 0 {
			last := &c.List[len(c.List)-1]
			last.List = append(last.List, pseudo(m.text("before", "after", "backdrop")))
		}
		out = append(out, c)
	}
	return out
}

func (m *maker) compound(depth int) (out []simple) {
	if m.pick(2) == 0 {
		out = append(out, spaced(m.pick(3), "", []simple{{Kind: api.SelAny}, typ(m.text("a", "b", "area"))}[m.pick(2)]))
		if m.pick(4) == 0 {
			out[0] = spaced(api.NSNamed, m.text("p", "q"), out[0])
		}
	}
	for len(out) == 0 || m.pick(3) == 0 {
		out = append(out, m.simple(depth))
	}
	return out
}

// simple gives a simple selector that may stand anywhere.
func (m *maker) simple(depth int) simple {
	kind := m.number(api.SelClass, api.SelID, api.SelAttr, api.SelAttr, api.SelRoot, api.SelState, api.SelLink, api.SelNth, api.SelIs, api.SelWhere, api.SelNot, api.SelNth)
	of := []api.Complex(nil)
	if depth > 0 && (kind != api.SelNth || m.pick(2) == 0) {
		of = m.list(depth-1, false)
	}
	switch kind {
	case api.SelClass:
		return class(m.text("x", "y"))
	case api.SelID:
		return id(m.text("x", "y", "x y"))
	case api.SelAttr:
		return m.attr()
	case api.SelState:
		return state(m.text("hover", "link"))
	case api.SelNth:
		return nth(m.pick(7)-3, m.pick(7)-3, of...)
	case api.SelIs, api.SelWhere, api.SelNot:
		if depth > 0 {
			return holds(kind, of...)
		}
		return class("x")
	}
	return simple{Kind: kind}
}

func (m *maker) attr() simple {
	s := attr(m.text("t", "class", "id", "href"), api.OpHas, "")
	if m.pick(4) > 0 {
		s.Cond = api.Cond{Op: 2 + m.pick(6), Text: m.text("x", "y", "X")}
		s.Mark = m.pick(3)
		s.Cond.Fold = s.Mark == api.MarkFold
	}
	way := m.pick(4)
	if way == api.NSNamed {
		return spaced(way, m.text("p", "q"), s)
	}
	return spaced(way, "", s)
}
