package match_test

import (
	"testing"

	"wattle/api"
	"wattle/dom"
)

type (
	node    = api.Node
	simple  = api.Simple
	subject = api.Subject
)

func el(parent int, name string, attrs ...string) node {
	n := node{Parent: parent, Kind: api.NodeElement, Name: name}
	for i := 0; i+1 < len(attrs); i += 2 {
		n.Attrs = append(n.Attrs, api.Attr{Name: attrs[i], Value: attrs[i+1]})
	}
	return n
}

func within(space string, n node) node {
	n.Space = space
	return n
}

func in(n node, states ...string) node {
	n.States = states
	return n
}

func text(parent int) node { return node{Parent: parent, Kind: api.NodeText, Text: "a"} }

func comment(parent int) node { return node{Parent: parent, Kind: api.NodeComment, Text: "a"} }

// tree gives the tree of a right document.
func tree(t *testing.T, doc ...node) *dom.Tree {
	t.Helper()
	d, err := dom.New(doc)
	if err != nil {
		t.Fatal(err)
	}
	return d
}

func typ(name string) simple    { return simple{Kind: api.SelType, Name: name} }
func class(name string) simple  { return simple{Kind: api.SelClass, Name: name} }
func id(name string) simple     { return simple{Kind: api.SelID, Name: name} }
func state(name string) simple  { return simple{Kind: api.SelState, Name: name} }
func pseudo(name string) simple { return simple{Kind: api.SelPseudo, Name: name} }
func nth(a, b int, of ...api.Complex) simple {
	return simple{Kind: api.SelNth, AB: api.AB{A: a, B: b}, Of: of}
}
func holds(kind int, of ...api.Complex) simple { return simple{Kind: kind, Of: of} }

func attr(name string, op int, text string) simple {
	return simple{Kind: api.SelAttr, Name: name, Cond: api.Cond{Op: op, Text: text}}
}

// spaced gives a simple selector with a namespace.
func spaced(way int, prefix string, s simple) simple {
	s.NS, s.Prefix = way, prefix
	return s
}

// one gives a selector of one compound.
func one(list ...simple) api.Complex {
	return api.Complex{List: []api.Compound{{List: list}}}
}

// then gives a selector with one more compound.
func then(c api.Complex, comb int, list ...simple) api.Complex {
	return api.Complex{List: append(c.List[:len(c.List):len(c.List)], api.Compound{Comb: comb, List: list})}
}

func list(some ...api.Complex) []api.Complex { return some }

// of gives an element's pseudo-element; without a name it is the element.
func of(n int, pseudo string) subject { return subject{Node: n, Pseudo: pseudo} }
