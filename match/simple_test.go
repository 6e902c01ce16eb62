package match_test

import (
	"math"
	"testing"

	"wattle/api"
	"wattle/match"
)

// wanted is a simple selector, and the places of the elements that are as it wants them, a digit each.
type wanted struct {
	s     simple
	names api.Names
	which string
}

// checkWanted holds Simple of all places against where it should be true.
func checkWanted(t *testing.T, doc []node, some ...wanted) {
	t.Helper()
	d := tree(t, doc...)
	for i, x := range some {
		which := ""
		for n := -1; n <= len(doc); n++ {
			if match.Simple(d, x.s, x.names, n) {
				which += string(rune('0' + n))
			}
		}
		if which != x.which {
			t.Errorf("%d: %+v: %s, not %s", i, x.s, which, x.which)
		}
	}
}

// P12.1: names, and namespaces that are in place.
func TestNames(t *testing.T) {
	doc := []node{el(-1, "r"), el(0, "a"), within("u", el(0, "a")), within("v", el(0, "a")), text(0), within("u", el(0, "b")), el(0, "A")}
	def, empty, unsaid := api.Names{HasDefault: true, Default: "u"}, api.Names{HasDefault: true}, api.Names{Default: "u"}
	some := api.Names{HasDefault: true, Default: "w", Prefixes: []string{"p", "q", "z", "p"}, Spaces: []string{"u", "", "w", "v"}}
	short := api.Names{Prefixes: []string{"p", "q"}, Spaces: []string{"u"}}
	a, any := typ("a"), simple{Kind: api.SelAny}
	checkWanted(t, doc,
		wanted{a, api.Names{}, "123"}, wanted{a, def, "2"}, wanted{a, empty, "1"}, wanted{a, unsaid, "123"}, wanted{a, some, ""},
		wanted{any, api.Names{}, "012356"}, wanted{any, def, "25"}, wanted{any, empty, "016"}, wanted{any, unsaid, "012356"},
		wanted{spaced(api.NSAny, "", a), def, "123"}, wanted{spaced(api.NSAny, "", any), def, "012356"}, wanted{spaced(api.NSEmpty, "", a), def, "1"}, wanted{spaced(api.NSEmpty, "", any), api.Names{}, "016"},
		wanted{spaced(api.NSNamed, "p", a), some, "2"}, wanted{spaced(api.NSNamed, "p", any), some, "25"}, wanted{spaced(api.NSNamed, "q", a), some, "1"}, wanted{spaced(api.NSNamed, "z", a), some, ""}, wanted{spaced(api.NSNamed, "x", a), some, ""}, wanted{spaced(api.NSNamed, "", any), some, ""}, wanted{spaced(api.NSNamed, "P", any), some, ""}, wanted{spaced(api.NSNamed, "p", any), api.Names{}, ""},
		wanted{spaced(api.NSNamed, "q", a), short, "1"}, wanted{spaced(api.NSNamed, "p", a), short, "2"},
		wanted{spaced(api.NSNone, "p", a), some, ""}, wanted{spaced(api.NSAny, "p", a), some, "123"},
		wanted{typ("A"), api.Names{}, "6"}, wanted{typ(""), api.Names{}, ""}, wanted{typ("*"), api.Names{}, ""}, wanted{typ("aa"), api.Names{}, ""},
	)
	for _, way := range []int{-1, 4, math.MinInt, math.MaxInt, 1 << 32, 1<<32 + 1} {
		checkWanted(t, doc, wanted{spaced(way, "p", a), some, ""}, wanted{spaced(way, "", any), def, ""}, wanted{spaced(way, "", any), api.Names{}, ""})
	}
}

// P12.1: classes and ids, which are attributes without a namespace.
func TestClassesAndIDs(t *testing.T) {
	doc := []node{
		el(-1, "r", "class", "x y", "id", "x y"), el(0, "a", "class", "\tX\n\ry\f", "id", "y"), el(0, "a", "class", "", "id", ""), el(0, "a", "Class", "x", "ID", "x"),
		{Parent: 0, Kind: api.NodeElement, Name: "a", Attrs: []api.Attr{{Space: "u", Name: "class", Value: "x"}, {Space: "u", Name: "id", Value: "y"}}}, el(0, "class", "id", "x", "class", "xy"), text(0),
	}
	def := api.Names{HasDefault: true, Default: "u"}
	for _, names := range []api.Names{{}, def} {
		checkWanted(t, doc,
			wanted{class("x"), names, "0"}, wanted{class("X"), names, "1"}, wanted{class("y"), names, "01"}, wanted{class("xy"), names, "5"}, wanted{class("x y"), names, ""}, wanted{class(""), names, ""}, wanted{class("y\f"), names, ""},
			wanted{id("x"), names, "5"}, wanted{id("y"), names, "1"}, wanted{id("x y"), names, "0"}, wanted{id("X"), names, ""}, wanted{id(""), names, "2"},
		)
	}
}

// P12.1: attributes by their names, namespaces and values.
func TestAttributes(t *testing.T) {
	some := func(list ...api.Attr) node {
		return node{Parent: 0, Kind: api.NodeElement, Space: "u", Name: "a", Attrs: list}
	}
	doc := []node{
		el(-1, "r"), el(0, "a", "t", "x"), some(api.Attr{Space: "u", Name: "t", Value: "x"}), some(api.Attr{Space: "u", Name: "t", Value: "y"}, api.Attr{Name: "t", Value: "z"}),
		some(api.Attr{Name: "t", Value: "y"}, api.Attr{Space: "v", Name: "t", Value: "x"}), some(api.Attr{Name: "T", Value: "x"}), el(0, "a", "t", ""), text(0),
	}
	names := api.Names{HasDefault: true, Default: "u", Prefixes: []string{"p", "e"}, Spaces: []string{"u", ""}}
	has, x := attr("t", api.OpHas, ""), attr("t", api.OpIs, "x")
	fold := x
	fold.Cond = api.Cond{Op: api.OpIs, Text: "X", Fold: true}
	checkWanted(t, doc,
		wanted{has, names, "1346"}, wanted{has, api.Names{}, "1346"}, wanted{spaced(api.NSEmpty, "", has), names, "1346"}, wanted{spaced(api.NSAny, "", has), names, "12346"}, wanted{spaced(api.NSNamed, "p", has), names, "23"}, wanted{spaced(api.NSNamed, "e", has), names, "1346"}, wanted{spaced(api.NSNamed, "q", has), names, ""},
		wanted{x, names, "1"}, wanted{spaced(api.NSAny, "", x), names, "124"}, wanted{spaced(api.NSNamed, "p", x), names, "2"}, wanted{spaced(4, "", x), names, ""}, wanted{spaced(-1, "", x), names, ""},
		wanted{fold, names, "1"}, wanted{attr("t", api.OpIs, "X"), names, ""}, wanted{attr("t", api.OpIs, ""), names, "6"}, wanted{attr("t", api.OpBegin, ""), names, ""}, wanted{attr("T", api.OpHas, ""), names, "5"}, wanted{attr("", api.OpHas, ""), names, ""},
		wanted{attr("t", 0, "x"), names, ""}, wanted{attr("t", 8, "x"), names, ""}, wanted{simple{Kind: api.SelAttr, Name: "t", Cond: api.Cond{Op: api.OpIs, Text: "X"}, Mark: api.MarkFold}, names, ""},
	)
	for op, want := range []string{"", "01234", "0", "02", "01", "013", "02", "0123"} {
		doc := []node{el(-1, "a", "t", "x"), el(0, "a", "t", "x-y"), el(0, "a", "t", "y x"), el(0, "a", "t", "xy"), el(0, "a", "t", "y")}
		checkWanted(t, doc, wanted{attr("t", op, "x"), api.Names{}, want})
	}
}

// P12.1: the root, states and links.
func TestRootStatesLinks(t *testing.T) {
	doc := []node{comment(-1), in(el(-1, "a", "href", ""), "hover"), in(within("u", el(1, "a", "href", "x")), "focus", "hover"), el(1, "area", "href", "x"), el(1, "b", "href", "x"), el(1, "a"), {Parent: 1, Kind: api.NodeElement, Name: "a", Attrs: []api.Attr{{Space: "u", Name: "href"}}}, el(1, "A", "href", ""), text(1)}
	root, link := simple{Kind: api.SelRoot}, simple{Kind: api.SelLink}
	def := api.Names{HasDefault: true, Default: "u", Prefixes: []string{"p"}, Spaces: []string{""}}
	checkWanted(t, doc,
		wanted{root, api.Names{}, "1"}, wanted{root, def, "1"}, wanted{state("hover"), def, "12"}, wanted{state("focus"), api.Names{}, "2"}, wanted{state("Hover"), api.Names{}, ""}, wanted{state(""), api.Names{}, ""}, wanted{state("link"), api.Names{}, ""},
		wanted{link, api.Names{}, "123"}, wanted{link, def, "2"}, wanted{link, api.Names{HasDefault: true}, "13"}, wanted{link, api.Names{Default: "u"}, "123"}, wanted{spaced(api.NSAny, "", link), def, "2"}, wanted{spaced(api.NSNamed, "p", link), def, "2"},
	)
}

// P12.1: elements by their numbers in their rows, all of them counted, or those that a list selects.
func TestNumbers(t *testing.T) {
	doc := []node{el(-1, "a"), el(0, "a"), text(0), el(0, "b"), el(1, "a"), comment(0), el(0, "a"), el(0, "b"), el(4, "a"), el(0, "a")}
	a, b := one(typ("a")), one(typ("b"))
	checkWanted(t, doc,
		wanted{nth(0, 1), api.Names{}, "0148"}, wanted{nth(0, 2), api.Names{}, "3"}, wanted{nth(2, 0), api.Names{}, "37"}, wanted{nth(2, 1), api.Names{}, "014689"}, wanted{nth(-1, 2), api.Names{}, "01348"}, wanted{nth(1, 3), api.Names{}, "679"}, wanted{nth(0, 0), api.Names{}, ""}, wanted{nth(-1, 0), api.Names{}, ""}, wanted{nth(1, 0), api.Names{}, "01346789"}, wanted{nth(0, 6), api.Names{}, ""},
		wanted{nth(0, 1, a), api.Names{}, "0148"}, wanted{nth(0, 2, a), api.Names{}, "6"}, wanted{nth(0, 3, a), api.Names{}, "9"}, wanted{nth(0, 1, b), api.Names{}, "3"}, wanted{nth(2, 0, b), api.Names{}, "7"}, wanted{nth(1, 0, a), api.Names{}, "014689"}, wanted{nth(0, 3, b, a), api.Names{}, "6"}, wanted{nth(0, 1, one(pseudo("before"))), api.Names{}, ""}, wanted{nth(1, 0, api.Complex{}), api.Names{}, ""},
		wanted{nth(0, 2, then(b, api.CombLater, simple{Kind: api.SelAny})), api.Names{}, "7"}, wanted{nth(0, 1, one(typ("a"), nth(0, 3))), api.Names{}, "6"}, wanted{nth(0, 1, a), api.Names{HasDefault: true, Default: "u"}, ""},
		wanted{nth(math.MaxInt, 1), api.Names{}, "0148"}, wanted{nth(math.MinInt, 2), api.Names{}, "3"}, wanted{nth(1, math.MinInt), api.Names{}, "01346789"}, wanted{nth(-1, math.MaxInt), api.Names{}, "01346789"},
	)
}

// P12.1: lists within select elements, without pseudo-elements; what is no element is in none, and in no :not either.
func TestLists(t *testing.T) {
	doc := []node{el(-1, "a"), el(0, "b"), text(0), el(1, "a"), el(0, "c"), comment(-1)}
	a, b, below := one(typ("a")), one(typ("b")), then(one(typ("b")), api.CombBelow, typ("a"))
	always := one(pseudo("before"))
	for _, kind := range []int{api.SelIs, api.SelWhere} {
		checkWanted(t, doc, wanted{holds(kind, a), api.Names{}, "03"}, wanted{holds(kind, a, b), api.Names{}, "013"}, wanted{holds(kind, below), api.Names{}, "3"}, wanted{holds(kind), api.Names{}, ""}, wanted{holds(kind, one(typ("x")), api.Complex{}, one(typ("a"), pseudo("after"))), api.Names{}, ""}, wanted{holds(kind, one()), api.Names{}, "0134"}, wanted{holds(kind, always), api.Names{}, ""}, wanted{holds(kind, one(holds(api.SelNot, a)), b), api.Names{}, "14"})
	}
	checkWanted(t, doc, wanted{holds(api.SelNot, a), api.Names{}, "14"}, wanted{holds(api.SelNot, a, b), api.Names{}, "4"}, wanted{holds(api.SelNot, below), api.Names{}, "014"}, wanted{holds(api.SelNot), api.Names{}, "0134"}, wanted{holds(api.SelNot, always), api.Names{}, "0134"}, wanted{holds(api.SelNot, one()), api.Names{}, ""}, wanted{holds(api.SelNot, one(holds(api.SelNot, a))), api.Names{}, "03"})
	checkWanted(t, doc, wanted{pseudo("before"), api.Names{}, "0134"}, wanted{pseudo("x"), api.Names{}, "0134"})
	for _, kind := range []int{0, -1, 14, 99, math.MinInt, math.MaxInt, 1 << 32, 1<<32 + api.SelAny} {
		checkWanted(t, doc, wanted{simple{Kind: kind, Name: "a", Of: list(a)}, api.Names{}, ""})
	}
}
