package local

import (
	"strings"

	"wattle/api"
)

// about is what a group's atoms ask for: an element's name and namespace, its attributes of a name, or a state.
type about struct {
	kind int
	name string
}

// group is the atoms of a list that ask for one thing. What holds of those of one group hangs on nothing that another group asks for.
type group struct {
	about
	atoms  []api.Atom
	places []int // in the list
}

// groups gives the groups of a list's atoms. That of the AtomTypes comes last, and is there without them, too, since each element has a name.
func groups(list []api.Atom) (out []group) {
	types, found := group{about: about{kind: api.AtomType}}, map[about]int{}
	for i, a := range list {
		a = copyAtom(a)
		if a.Kind == api.AtomType {
			types.add(a, i)
			continue
		}
		key := about{a.Kind, a.Name}
		n, ok := found[key]
		if !ok {
			n = len(out)
			found[key] = n
			out = append(out, group{about: key})
		}
		out[n].add(a, i)
	}
	return append(out, types)
}

func (g *group) add(a api.Atom, place int) {
	g.atoms, g.places = append(g.atoms, a), append(g.places, place)
}

// copyAtom gives an atom whose names are new memory, for nodes to have them.
func copyAtom(a api.Atom) api.Atom {
	a.Space, a.Name = strings.Clone(a.Space), strings.Clone(a.Name)
	return a
}

// rows gives the rows of a group's atoms, if there are steps enough.
func (g group) rows(m *meter) ([]row, bool) {
	switch g.kind {
	case api.AtomType:
		return g.typeRows(m)
	case api.AtomAttr:
		return g.attrRows(m)
	}
	return g.stateRows(m)
}

// stateRows gives the rows without the state, and with it.
func (g group) stateRows(m *meter) ([]row, bool) {
	if !m.spend(2) {
		return nil, false
	}
	none, all := noTruths(len(g.atoms)), strings.Repeat(string(yes), len(g.atoms))
	return []row{{truths: none}, {truths: all, node: api.Node{States: []string{g.name}}}}, true
}
