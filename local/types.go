package local

import (
	"slices"

	"wattle/api"
)

// home is an element's name and namespace.
type home struct{ name, space string }

// typeRows gives the rows of AtomTypes.
func (g group) typeRows(m *meter) ([]row, bool) {
	homes, ok := g.homes(m)
	if !ok {
		return nil, false
	}
	var out []row
	for _, h := range homes {
		n, truths := api.Node{Space: h.space, Name: h.name}, []byte(noTruths(len(g.atoms)))
		for i, a := range g.atoms {
			if Holds(a, n) {
				truths[i] = yes
			}
		}
		out = append(out, row{truths: string(truths), node: n})
	}
	return out, true
}

// homes gives a name and a namespace for each row that there is, if there are steps enough: those that atoms ask for alone, and others, in all ways; and those that an atom asks for together. Elsewhere a name that is asked for just together with a namespace is like the other one, and so is such a namespace.
func (g group) homes(m *meter) ([]home, bool) {
	names, spaces := others(1, 1, g.names()), others(0, 1, g.spaces())
	var both, out []home
	for _, a := range g.atoms {
		switch {
		case a.Name != "" && a.HasSpace:
			both = append(both, home{a.Name, a.Space})
		case a.Name != "":
			names = append(names, a.Name)
		case a.HasSpace:
			spaces = append(spaces, a.Space)
		}
	}
	names, spaces = distinct(names), distinct(spaces)
	ways := len(names) * len(spaces)
	if !m.spend(ways) {
		return nil, false
	}
	for _, name := range names {
		for _, space := range spaces {
			out = append(out, home{name, space})
		}
	}
	out = distinct(append(out, both...))
	return out, m.spend(len(out) - ways)
}

// distinct gives each part of a list once, in order.
func distinct[T comparable](list []T) []T {
	seen := map[T]struct{}{}
	return slices.DeleteFunc(list, func(x T) bool {
		_, twice := seen[x]
		seen[x] = struct{}{}
		return twice
	})
}

// names gives the names for which the atoms ask.
func (g group) names() map[string]struct{} {
	return g.asked(func(a api.Atom) (string, bool) { return a.Name, a.Name != "" })
}

// spaces gives the namespaces for which they ask.
func (g group) spaces() map[string]struct{} {
	return g.asked(func(a api.Atom) (string, bool) { return a.Space, a.HasSpace })
}

// asked gives the texts that a function finds in the atoms.
func (g group) asked(find func(a api.Atom) (string, bool)) map[string]struct{} {
	out := map[string]struct{}{}
	for _, a := range g.atoms {
		if s, ok := find(a); ok {
			out[s] = struct{}{}
		}
	}
	return out
}

// others gives some texts, from that of a number on, that aren't among those that there are.
func others(number, size int, there map[string]struct{}) (out []string) {
	for ; len(out) < size; number++ {
		s := text(number)
		if _, ok := there[s]; !ok {
			out = append(out, s)
		}
	}
	return out
}

// text gives each number a text of its own: the empty one, a to z, and longer ones.
func text(number int) string {
	var out []byte
	for ; number > 0; number = (number - 1) / 26 {
		out = append(out, byte('a'+(number-1)%26))
	}
	return string(out)
}
