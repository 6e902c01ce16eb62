package local

import (
	"slices"

	"wattle/api"
	"wattle/solve"
)

// spot is a namespace that atoms of an attribute ask for, and the numbers of these in their group.
type spot struct {
	space string
	atoms []int
}

// spots gives the namespaces that the atoms ask for, each once, in order, and the numbers of the atoms that ask for none.
func (g group) spots() (out []spot, free []int) {
	found := map[string]int{}
	for i, a := range g.atoms {
		if !a.HasSpace {
			free = append(free, i)
			continue
		}
		n, ok := found[a.Space]
		if !ok {
			n = len(out)
			found[a.Space] = n
			out = append(out, spot{space: a.Space})
		}
		out[n].atoms = append(out[n].atoms, i)
	}
	return out, free
}

// conds gives the conditions of some of the atoms.
func (g group) conds(atoms []int) (out []api.Cond) {
	for _, i := range atoms {
		out = append(out, g.atoms[i].Cond)
	}
	return out
}

// attrRows gives the rows of an attribute's atoms.
func (g group) attrRows(m *meter) ([]row, bool) {
	f := newFamily(len(g.atoms))
	spots, free := g.spots()
	for _, s := range spots {
		pieces, ok := g.pieces(m, slices.Concat(s.atoms, free))
		if !ok {
			return nil, false
		}
		first := len(f.rows) // of those to which the pieces are added: an element has one attribute in a namespace at most
		for _, p := range pieces {
			p.attr.Space = s.space
			if !f.extend(m, first, p) {
				return nil, false
			}
		}
	}
	if !g.addFree(m, f, free) {
		return nil, false
	}
	g.settle(f.rows)
	return f.rows, true
}

// addFree adds what comes of attributes in namespaces for which no atom asks: any number of them. A piece that says no more than some ahead of it do together is left out.
func (g group) addFree(m *meter, f *family, free []int) bool {
	if len(free) == 0 {
		return true
	}
	pieces, ok := g.pieces(m, free)
	together := newFamily(len(g.atoms))
	for _, p := range pieces {
		if together.has(p) {
			continue
		}
		p.free = true
		if !together.extend(m, len(together.rows), p) || !f.extend(m, len(f.rows), p) {
			return false
		}
	}
	return ok
}

// pieces gives the attributes that there may be in one namespace, if there are steps enough.
func (g group) pieces(m *meter, atoms []int) (out []piece, ok bool) {
	vectors, steps, err := solve.Solve(g.conds(atoms), m.left())
	m.used += steps
	for _, v := range vectors {
		if v.Absent {
			continue // it adds nothing
		}
		p := piece{attr: api.Attr{Name: g.name, Value: v.Value}}
		for i, truth := range v.Holds {
			if truth {
				p.atoms = append(p.atoms, atoms[i])
			}
		}
		out = append(out, p)
	}
	return out, err == nil
}

// settle gives the rows' free values their attributes.
func (g group) settle(rows []row) {
	size := 0
	for _, r := range rows {
		size = max(size, len(r.free))
	}
	spaces := others(0, size, g.spaces())
	for i, r := range rows {
		attrs := slices.Clone(r.node.Attrs)
		for k, v := range r.free {
			attrs = append(attrs, api.Attr{Space: spaces[k], Name: g.name, Value: v})
		}
		rows[i].node.Attrs = attrs
	}
}
