package local

import (
	"cmp"

	"wattle/api"
	"wattle/bounds"
)

// letters gives all that comes of the groups' rows together, if there are steps enough.
func letters(list []api.Atom, m *meter) ([]api.Letter, bool) {
	all, total := groups(list), 1
	rows := make([][]row, len(all))
	for i, g := range all {
		var ok bool
		rows[i], ok = g.rows(m)
		total = bounds.Times(total, len(rows[i]))
		if !ok || total > m.left() { // known as soon as it is too much: each group has one row at least
			return nil, false
		}
	}
	out := make([]api.Letter, total)
	for n := range out {
		rest := n
		out[n] = api.Letter{Holds: make([]bool, len(list)), Node: api.Node{Parent: -1, Kind: api.NodeElement}}
		for i, g := range all {
			g.put(rows[i][rest%len(rows[i])], &out[n])
			rest /= len(rows[i])
		}
	}
	return out, m.spend(total)
}

// put gives a letter what a row of the group has.
func (g group) put(r row, to *api.Letter) {
	for i, place := range g.places {
		to.Holds[place] = r.truths[i] == yes
	}
	n := &to.Node
	n.Space, n.Name = cmp.Or(n.Space, r.node.Space), cmp.Or(n.Name, r.node.Name)
	n.Attrs, n.States = append(n.Attrs, r.node.Attrs...), append(n.States, r.node.States...)
}
