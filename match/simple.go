package match

import (
	"slices"

	"wattle/anb"
	"wattle/api"
	"wattle/sel"
	"wattle/value"
)

// compound tells whether an element is as all simple selectors of a compound want it.
func (l *look) compound(list []api.Simple, n int) bool {
	for i := range list {
		if !l.simple(&list[i], n) {
			return false
		}
	}
	return true
}

// simple tells whether an element is as a simple selector wants it.
func (l *look) simple(s *api.Simple, n int) bool {
	switch s.Kind {
	case api.SelType:
		if l.node(n).Name != s.Name {
			return false
		}
		fallthrough
	case api.SelAny:
		return l.inPlace(n, s.NS, s.Prefix)
	case api.SelClass:
		class, ok := l.tree.Value(n, "", "class")
		return ok && value.Holds(api.Cond{Op: api.OpWord, Text: s.Name}, class)
	case api.SelID:
		id, ok := l.tree.Value(n, "", "id")
		return ok && id == s.Name
	case api.SelAttr:
		return slices.ContainsFunc(l.node(n).Attrs, func(a api.Attr) bool { return l.isWanted(s, a) })
	case api.SelRoot:
		_, ok := l.tree.Parent(n)
		return !ok
	case api.SelState:
		return l.tree.State(n, s.Name)
	case api.SelLink:
		return l.isLink(n)
	case api.SelNth:
		return l.isCounted(s, n) && anb.Has(s.AB.A, s.AB.B, l.count(s, n))
	case api.SelIs, api.SelWhere:
		return l.list(s.Of, n)
	case api.SelNot:
		return !l.list(s.Of, n)
	case api.SelPseudo:
		return true
	}
	return false
}

// isWanted tells whether an attribute is as a SelAttr wants it.
func (l *look) isWanted(s *api.Simple, a api.Attr) bool {
	return a.Name == s.Name && l.isSpace(a.Space, s.NS, s.Prefix) && value.Holds(s.Cond, a.Value)
}

func (l *look) isLink(n int) bool {
	_, ok := l.tree.Value(n, "", "href")
	name := l.node(n).Name
	return ok && (name == "a" || name == "area") && l.inPlace(n, api.NSNone, "")
}

// inPlace tells whether an element's namespace is in place.
func (l *look) inPlace(n, way int, prefix string) bool {
	if way == api.NSNone && !l.names.HasDefault {
		return true
	}
	space := l.node(n).Space
	if way == api.NSNone {
		return space == l.names.Default
	}
	return l.isSpace(space, way, prefix)
}

// isSpace tells whether a namespace is in place where there is no default one.
func (l *look) isSpace(space string, way int, prefix string) bool {
	switch way {
	case api.NSNone, api.NSEmpty:
		return space == ""
	case api.NSAny:
		return true
	case api.NSNamed:
		want, ok := sel.Space(l.names, prefix)
		return ok && space == want
	}
	return false
}

func (l *look) node(n int) api.Node {
	node, _ := l.tree.Node(n)
	return node
}
