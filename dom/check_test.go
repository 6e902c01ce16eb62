package dom_test

import (
	"math"
	"slices"
	"strconv"
	"testing"
	"unicode/utf8"

	"wattle/api"
	"wattle/dom"
)

type node = api.Node

func el(parent int, name string) node {
	return node{Parent: parent, Kind: api.NodeElement, Name: name}
}

func text(parent int, s string) node {
	return node{Parent: parent, Kind: api.NodeText, Text: s}
}

func comment(parent int, s string) node {
	return node{Parent: parent, Kind: api.NodeComment, Text: s}
}

func with(n node, attrs ...api.Attr) node {
	n.Attrs = attrs
	return n
}

func in(n node, states ...string) node {
	n.States = states
	return n
}

// states are the states that there are.
var states = []string{"hover", "active", "focus", "focus-visible", "visited", "link", "checked", "disabled", "enabled", "target"}

// wrong are texts that aren't right values.
var wrong = []string{"\x00", "a\x00", "\xff", "a\xe2\x82", "\xed\xa0\x80", "\xc0\x80", "\xf4\x90\x80\x80"}

func isFault(err error, kind api.Errno, at int) bool {
	f, ok := err.(*api.Fault)
	if kind == 0 {
		return err == nil
	}
	return ok && f.Kind == kind && f.At == at
}

// check holds Check and New of a document against what they should be.
func check(t *testing.T, what any, doc []node, kind api.Errno, at int) {
	t.Helper()
	if err := dom.Check(doc); !isFault(err, kind, at) {
		t.Errorf("%v: Check: %v, not %v at %d", what, err, kind, at)
	}
	if tree, err := dom.New(doc); !isFault(err, kind, at) || (tree == nil) != (err != nil) {
		t.Errorf("%v: New: %v, %v, not %v at %d", what, tree, err, kind, at)
	}
}

// P11.1: nodes with all that they may have.
func TestRightNodes(t *testing.T) {
	some := []node{
		el(0, "a"), el(0, "é €\U0001f600"), el(0, " "), el(0, "\x01"), el(1, "*"),
		{Parent: 0, Kind: api.NodeElement, Space: "u", Name: "a"}, {Parent: 0, Kind: api.NodeElement, Space: "\ufeff", Name: "a"},
		with(el(0, "a"), api.Attr{Name: "x"}), with(el(0, "a"), api.Attr{Name: "x"}, api.Attr{Name: "X"}, api.Attr{Space: "u", Name: "x"}, api.Attr{Space: "x", Name: "u", Value: "\ufeff\"\n"}, api.Attr{Space: "ux", Name: "x"}, api.Attr{Name: "xx", Value: "x"}),
		with(el(0, "a"), []api.Attr{}...), {Parent: 0, Kind: api.NodeElement, Name: "a", Attrs: []api.Attr{}, States: []string{}}, in(el(0, "a"), states...), in(el(0, "a"), "target", "hover"),
		text(0, ""), text(0, "x\n€"), text(1, "\ufeff"), comment(0, ""), comment(1, "-->"), comment(-1, ""), comment(-1, "x"), {Parent: 0, Kind: api.NodeText, Attrs: []api.Attr{}, States: []string{}},
	}
	for i, n := range some {
		check(t, i, []node{el(-1, "r"), el(0, "a"), n, n}, 0, 0)
	}
	for i, n := range []node{el(-1, "a"), in(with(el(-1, "a"), api.Attr{Name: "x"}), "hover")} {
		check(t, i, []node{n}, 0, 0)
		check(t, i, []node{comment(-1, "x"), n, comment(-1, "x"), text(1, "x")}, 0, 0)
	}
	for _, name := range states {
		check(t, name, []node{in(el(-1, "a"), name)}, 0, 0)
	}
}

// wrongNodes are nodes that aren't right behind an element, a text and a comment, each by one thing.
func wrongNodes() []node {
	out := []node{
		el(0, ""), text(-1, ""), text(-1, "x"), in(el(0, "a"), ""), in(el(0, "a"), "x"), in(el(0, "a"), "Hover"), in(el(0, "a"), "before"), in(el(0, "a"), "hover", "focus", "hover"), in(el(0, "a"), append(states, "hover")...), in(el(0, "a"), "hover", "\xff"),
		with(el(0, "a"), api.Attr{}), with(el(0, "a"), api.Attr{Value: "x"}), with(el(0, "a"), api.Attr{Name: "x"}, api.Attr{Space: "u"}), with(el(0, "a"), api.Attr{Name: "x"}, api.Attr{Name: "y"}, api.Attr{Name: "x", Value: "z"}), with(el(0, "a"), api.Attr{Space: "u", Name: "x", Value: "1"}, api.Attr{Name: "x"}, api.Attr{Space: "u", Name: "x", Value: "2"}), with(el(0, "a"), api.Attr{Name: "class"}, api.Attr{Name: "class"}),
		{Parent: 0, Kind: api.NodeElement, Name: "a", Text: "x"}, {Parent: 0, Kind: api.NodeElement, Text: "a"},
	}
	for _, n := range []node{text(0, "x"), comment(0, "x"), text(0, ""), comment(-1, "")} {
		space, name, attrs, state := n, n, with(n, api.Attr{Name: "x"}), in(n, "hover")
		space.Space, name.Name = "u", "a"
		out = append(out, space, name, attrs, state)
	}
	for _, s := range wrong {
		out = append(out, el(0, s), node{Parent: 0, Kind: api.NodeElement, Space: s, Name: "a"}, node{Parent: 0, Kind: api.NodeElement, Name: "a", Text: s}, text(0, s), comment(0, s), comment(-1, s), with(el(0, "a"), api.Attr{Name: s}), with(el(0, "a"), api.Attr{Space: s, Name: "x"}), with(el(0, "a"), api.Attr{Name: "x", Value: s}), in(el(0, "a"), s))
	}
	for _, kind := range []int{0, -1, 4, math.MinInt, math.MaxInt, 1 << 32, 1<<32 + api.NodeElement} {
		out = append(out, node{Parent: 0, Kind: kind, Name: "a"}, node{Parent: 0, Kind: kind, Text: "a"}, node{Parent: 0, Kind: kind})
	}
	for _, parent := range []int{-2, 1, 2, 3, 4, math.MinInt, math.MaxInt, 1 << 32, 1<<32 - 1} {
		out = append(out, el(parent, "a"), text(parent, "a"), comment(parent, "a"))
	}
	return out
}

// P11.1: the place of the first node that isn't right, whatever comes behind it, and ahead of whether there is an element without a parent.
func TestWrongNodes(t *testing.T) {
	ahead := []node{el(-1, "r"), text(0, "x"), comment(0, "x")}
	for i, n := range wrongNodes() {
		check(t, i, append(slices.Clone(ahead), n), api.ErrForm, 3)
		check(t, i, append(slices.Clone(ahead), n, n, el(-1, "s")), api.ErrForm, 3)
		check(t, i, append(slices.Clone(ahead), comment(-1, "s"), n), api.ErrForm, 4)
	}
	for i, n := range wrongNodes() {
		check(t, i, []node{n, el(-1, "r")}, api.ErrForm, 0)
	}
}

// P11.1: just one element has no parent.
func TestOneRoot(t *testing.T) {
	check(t, "nil", nil, api.ErrNone, 0)
	check(t, "empty", []node{}, api.ErrNone, 0)
	check(t, "comments", []node{comment(-1, "a"), comment(-1, "b")}, api.ErrNone, 2)
	check(t, "two", []node{el(-1, "a"), el(-1, "a")}, api.ErrNone, 2)
	check(t, "three", []node{el(-1, "a"), el(0, "b"), el(-1, "a"), text(2, ""), el(-1, "a")}, api.ErrNone, 5)
	check(t, "one", []node{comment(-1, "a"), el(-1, "a"), el(1, "b"), comment(-1, "c")}, 0, 0)
}

// rightByWords tells whether a node is right by the chapter's words.
func rightByWords(doc []node, at int) bool {
	n := doc[at]
	if n.Parent < -1 || n.Parent >= at || n.Parent >= 0 && doc[n.Parent].Kind != api.NodeElement {
		return false
	}
	value := func(s string) bool { return utf8.ValidString(s) && !slices.Contains([]byte(s), 0) }
	if n.Kind != api.NodeElement {
		empty := n.Space == "" && n.Name == "" && len(n.Attrs) == 0 && len(n.States) == 0 && value(n.Text)
		return empty && (n.Kind == api.NodeComment || n.Kind == api.NodeText && n.Parent != -1)
	}
	for i, a := range n.Attrs {
		for _, b := range n.Attrs[:i] {
			if a.Space == b.Space && a.Name == b.Name {
				return false
			}
		}
		if !value(a.Space) || a.Name == "" || !value(a.Name) || !value(a.Value) {
			return false
		}
	}
	for i, s := range n.States {
		if !slices.Contains(states, s) || slices.Contains(n.States[:i], s) {
			return false
		}
	}
	return value(n.Space) && n.Name != "" && value(n.Name) && n.Text == ""
}

// maker makes documents by numbers that follow from a seed.
type maker struct{ seed uint32 }

func (m *maker) pick(n int) int {
	m.seed = m.seed*1664525 + 1013904223
	return int(m.seed>>8) % n
}

func (m *maker) text(some ...string) string { return some[m.pick(len(some))] }

// node makes a node that is mostly right at a place.
func (m *maker) node(at int) node {
	n := node{Parent: m.pick(at+1) - 1, Kind: []int{1, 1, 1, 1, 2, 3}[m.pick(6)]}
	if at > 0 && n.Parent == -1 && m.pick(4) > 0 {
		n.Parent = 0
	}
	if n.Kind != api.NodeElement {
		n.Text = m.text("", "x", "€", "y z")
	} else {
		n.Name, n.Space = m.text("a", "b", "c"), m.text("", "", "u")
		for range m.pick(3) {
			n.Attrs = append(n.Attrs, api.Attr{Space: m.text("", "", "u"), Name: m.text("class", "id", "x", "y"), Value: m.text("", "x", "é")})
		}
		for range m.pick(3) {
			n.States = append(n.States, states[m.pick(len(states))])
		}
	}
	switch m.pick(60) {
	case 0:
		n.Name = m.text("", "\x00", "a")
	case 1:
		n.Text = m.text("x", "\xff", "")
	case 2:
		n.Parent = m.pick(at+4) - 2
	case 3:
		n.Kind = m.pick(5)
	case 4:
		n.States = append(n.States, m.text("hover", "x"))
	case 5:
		n.Attrs = append(n.Attrs, api.Attr{Name: m.text("class", "", "\xff"), Value: m.text("", "\x00")})
	}
	return n
}

func (m *maker) doc(most int) []node {
	var doc []node
	for at := range m.pick(most + 1) {
		doc = append(doc, m.node(at))
	}
	return doc
}

// P11.1: many documents, held against the chapter's words.
func TestCheckByWords(t *testing.T) {
	kinds := map[api.Errno]int{}
	for seed := range uint32(40000) {
		m := maker{seed}
		doc := m.doc(8)
		kind, at, tops := api.Errno(0), 0, 0
		for i, n := range doc {
			if !rightByWords(doc, i) {
				kind, at = api.ErrForm, i
				break
			}
			if n.Parent == -1 && n.Kind == api.NodeElement {
				tops++
			}
		}
		if kind == 0 && tops != 1 {
			kind, at = api.ErrNone, len(doc)
		}
		kinds[kind]++
		check(t, doc, doc, kind, at)
	}
	for _, kind := range []api.Errno{0, api.ErrForm, api.ErrNone} {
		if kinds[kind] < 1000 {
			t.Errorf("%v just %d times", kind, kinds[kind])
		}
	}
}

// P1, P11.1: great documents: many nodes, many attributes, deep ones.
func TestGreatDocuments(t *testing.T) {
	const many = 1 << 17
	wide, deep := []node{el(-1, "r")}, []node{el(-1, "r")}
	attrs := make([]api.Attr, many)
	for i := range many {
		wide = append(wide, el(0, "a"))
		deep = append(deep, el(i/2, "a"))
		attrs[i] = api.Attr{Name: "x" + strconv.Itoa(i)}
	}
	check(t, "wide", wide, 0, 0)
	check(t, "deep", deep, 0, 0)
	check(t, "attributes", []node{with(el(-1, "r"), attrs...)}, 0, 0)
	check(t, "twice", []node{with(el(-1, "r"), append(attrs, attrs[many/2])...)}, api.ErrForm, 0)
	wide[many].Parent = many
	check(t, "late", wide, api.ErrForm, many)
}
