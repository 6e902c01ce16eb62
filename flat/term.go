package flat

import (
	"wattle/api"
	"wattle/sel"
)

// terms gives what a compound's simple selectors ask.
func (m *maker) terms(list []api.Simple) (out []api.Term) {
	for _, s := range list {
		out = append(out, m.term(s))
	}
	return out
}

// term gives what a simple selector asks.
func (m *maker) term(s api.Simple) api.Term {
	switch s.Kind {
	case api.SelType, api.SelAny:
		return m.named(s)
	case api.SelClass:
		return m.attr("class", api.Cond{Op: api.OpWord, Text: s.Name}, api.NSEmpty, "")
	case api.SelID:
		return m.attr("id", api.Cond{Op: api.OpIs, Text: s.Name}, api.NSEmpty, "")
	case api.SelAttr:
		return m.attr(s.Name, s.Cond, s.NS, s.Prefix)
	case api.SelState:
		return m.atom(api.Atom{Kind: api.AtomState, Name: s.Name})
	case api.SelRoot:
		return api.Term{Kind: api.TermRoot}
	case api.SelLink:
		return m.link()
	case api.SelNth:
		return m.count(s)
	case api.SelIs, api.SelWhere:
		return m.one(s.Of)
	case api.SelNot:
		return within(api.TermNot, m.one(s.Of))
	}
	return api.Term{Kind: api.TermTrue} // a pseudo-element: the row has its name
}

// named asks for an element's name (any one, if there is none) in a namespace.
func (m *maker) named(s api.Simple) api.Term {
	space, ok := m.space(s.NS, s.Prefix)
	if s.Name == "" && !ok {
		return api.Term{Kind: api.TermTrue}
	}
	return m.atom(api.Atom{Kind: api.AtomType, HasSpace: ok, Space: space, Name: s.Name})
}

// attr asks for an attribute. The default namespace is none of attributes'.
func (m *maker) attr(name string, c api.Cond, way int, prefix string) api.Term {
	if way == api.NSNone {
		way = api.NSEmpty
	}
	space, ok := m.space(way, prefix)
	return m.atom(api.Atom{Kind: api.AtomAttr, HasSpace: ok, Space: space, Name: name, Cond: c})
}

// space gives the namespace in which a name stands; none, if any will do.
func (m *maker) space(way int, prefix string) (string, bool) {
	switch {
	case way == api.NSNamed:
		return sel.Space(m.names, prefix)
	case way == api.NSNone && m.names.HasDefault:
		return m.names.Default, true
	}
	return "", way == api.NSEmpty
}

// link asks for a link's name, and for its address: neither may be wanting.
func (m *maker) link() api.Term {
	name := within(api.TermAny, m.named(api.Simple{Name: "a"}), m.named(api.Simple{Name: "area"}))
	address := m.attr("href", api.Cond{Op: api.OpHas}, api.NSEmpty, "")
	return within(api.TermNot, within(api.TermAny, within(api.TermNot, name), within(api.TermNot, address)))
}

// one asks for one of a list's selectors.
func (m *maker) one(list []api.Complex) api.Term {
	var terms []api.Term
	for _, n := range m.rows(list) {
		terms = append(terms, api.Term{Kind: api.TermRow, N: n})
	}
	return within(api.TermAny, terms...)
}

// within gives a term of a kind with some terms within it.
func within(kind int, terms ...api.Term) api.Term {
	return api.Term{Kind: kind, Terms: terms}
}
