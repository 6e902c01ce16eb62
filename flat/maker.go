package flat

import (
	"strings"

	"wattle/api"
	"wattle/sel"
)

// maker makes a plan.
type maker struct {
	names api.Names
	plan  api.Plan
	atoms map[api.Atom]int // their numbers
}

func newMaker(names api.Names) *maker {
	return &maker{names: names, atoms: map[api.Atom]int{}}
}

// rows puts the rows of a list behind those that there are, and gives their numbers.
func (m *maker) rows(list []api.Complex) (out []int) {
	for _, c := range list {
		out = append(out, m.row(c))
	}
	return out
}

// row puts the row of a selector behind those that there are, and gives its number. The rows of the selectors within come ahead of it, so how many steps there are ahead is known just when its own are made.
func (m *maker) row(c api.Complex) int {
	r := api.Row{Pseudo: sel.Pseudo(c)}
	for _, part := range c.List {
		r.Steps = append(r.Steps, api.Step{Comb: part.Comb, Terms: m.terms(part.List)})
	}
	r.First = m.plan.Steps
	m.plan.Steps += len(r.Steps)
	m.plan.Rows = append(m.plan.Rows, r)
	return len(m.plan.Rows) - 1
}

// count puts a counter behind those that there are, and asks for it. Those within it come ahead of it.
func (m *maker) count(s api.Simple) api.Term {
	c := api.Counter{AB: s.AB, Rows: m.rows(s.Of)}
	m.plan.Counters = append(m.plan.Counters, c)
	return api.Term{Kind: api.TermCount, N: len(m.plan.Counters) - 1}
}

// atom asks for an atom, which is put behind those that there are, if it isn't one of them.
func (m *maker) atom(a api.Atom) api.Term {
	n, ok := m.atoms[a]
	if !ok {
		a.Space, a.Name, a.Cond.Text = strings.Clone(a.Space), strings.Clone(a.Name), strings.Clone(a.Cond.Text)
		n = len(m.plan.Atoms)
		m.atoms[a] = n
		m.plan.Atoms = append(m.plan.Atoms, a)
	}
	return api.Term{Kind: api.TermAtom, N: n}
}
