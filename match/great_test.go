package match_test

import (
	"strconv"
	"strings"
	"testing"

	"wattle/api"
	"wattle/dom"
	"wattle/match"
)

// chain gives elements of a name, each right beneath the one ahead.
func chain(size int, name string) []node {
	var doc []node
	for n := range size {
		doc = append(doc, el(n-1, name))
	}
	return doc
}

// wide gives an element, and others of a name right beneath it.
func wide(size int, name string) []node {
	doc := []node{el(-1, "r")}
	for range size {
		doc = append(doc, el(0, name))
	}
	return doc
}

// again gives a selector of many compounds that are alike.
func again(size, comb int, s simple) api.Complex {
	c := one(s)
	for range size - 1 {
		c.List = append(c.List, api.Compound{Comb: comb, List: []simple{s}})
	}
	return c
}

// count tells how many elements a selector selects.
func count(d *dom.Tree, c api.Complex) int { return len(match.All(d, list(c), api.Names{})) }

// P1: what can be gone in many ways isn't gone in all of them.
func TestManyWays(t *testing.T) {
	const many, size = 3000, 400
	deep, row := tree(t, chain(many, "a")...), tree(t, wide(many, "a")...)
	for _, c := range []struct {
		d    *dom.Tree
		comb int
	}{{deep, api.CombBelow}, {row, api.CombLater}} {
		some := again(size, c.comb, typ("a"))
		none := api.Complex{List: append([]api.Compound{{List: []simple{typ("x")}}}, some.List...)}
		none.List[1].Comb = c.comb
		if got := count(c.d, some); got != many-size+1 {
			t.Errorf("%d", got)
		}
		if got := count(c.d, none); got != 0 {
			t.Errorf("%d", got)
		}
		for n := size - 10; n < size+10; n++ {
			if got := match.Complex(c.d, some, api.Names{}, subject{Node: n}); got != (n >= size-1+c.comb/api.CombLater) {
				t.Errorf("%d: %v", n, got)
			}
		}
		if match.Complex(c.d, none, api.Names{}, subject{Node: many - 1}) {
			t.Error("a selector that selects nothing")
		}
	}
}

// P1: great documents, deep ones and wide ones.
func TestGreatDocuments(t *testing.T) {
	const many = 1 << 16
	deep, row := tree(t, chain(many, "a")...), tree(t, wide(many, "a")...)
	last, lastOfRow := subject{Node: many - 1}, subject{Node: many}
	a := one(typ("a"))
	if !match.Complex(deep, again(many, api.CombChild, typ("a")), api.Names{}, last) || match.Complex(deep, again(many+1, api.CombChild, typ("a")), api.Names{}, last) {
		t.Error("children")
	}
	if !match.Complex(deep, again(many, api.CombBelow, typ("a")), api.Names{}, last) || !match.Complex(row, again(many, api.CombLater, typ("a")), api.Names{}, lastOfRow) || !match.Complex(row, again(many, api.CombNext, typ("a")), api.Names{}, lastOfRow) {
		t.Error("many compounds")
	}
	for _, c := range []struct {
		d    *dom.Tree
		c    api.Complex
		want int
	}{
		{deep, then(one(typ("x")), api.CombBelow, typ("a")), 0}, {deep, then(a, api.CombBelow, typ("a")), many - 1}, {row, then(one(typ("x")), api.CombLater, typ("a")), 0}, {row, then(a, api.CombLater, typ("a")), many - 1}, {row, one(nth(2, 0)), many / 2}, {row, one(nth(3, 0, a)), many / 3}, {row, one(nth(3, 0, then(a, api.CombNext, typ("a")))), (many - 1) / 3}, {row, then(one(simple{Kind: api.SelRoot}), api.CombBelow, holds(api.SelNot, one(nth(2, 1)))), many / 2},
		{deep, one(nth(0, 1)), many}, {row, then(one(nth(many, 0)), api.CombLater, typ("a")), 0}, {row, then(one(nth(0, many-1)), api.CombLater, typ("a")), 1},
	} {
		if got := count(c.d, c.c); got != c.want {
			t.Errorf("%v: %d, not %d", c.c, got, c.want)
		}
	}
}

// P1: lists within one another, as deep as they may be, and of counts that hang on one another.
func TestDeepLists(t *testing.T) {
	c, d := one(typ("a")), tree(t, chain(2, "a")...)
	for range 1 << 16 {
		c = one(holds(api.SelNot, c))
	}
	if got := count(d, c); got != 2 {
		t.Errorf("%d", got)
	}
	row := tree(t, wide(64, "a")...)
	c = one(typ("a"))
	for range 32 {
		c = one(nth(1, 2, c))
	}
	if got := count(row, c); got != 32 {
		t.Errorf("%d", got)
	}
	if !match.Complex(row, c, api.Names{}, subject{Node: 64}) || match.Complex(row, c, api.Names{}, subject{Node: 32}) {
		t.Error("counts")
	}
}

// P1: many selectors, attributes and prefixes.
func TestManyParts(t *testing.T) {
	const many = 1000
	root, names := el(-1, "a"), api.Names{}
	var some []api.Complex
	for i := range many {
		name := "n" + strconv.Itoa(i)
		root.Attrs = append(root.Attrs, api.Attr{Name: name, Value: strings.Repeat("x ", i)})
		names.Prefixes, names.Spaces = append(names.Prefixes, name), append(names.Spaces, name+"s")
		some = append(some, one(spaced(api.NSNamed, name, typ("a")), attr(name, api.OpHas, "")))
	}
	root.Space = "n999s"
	d := tree(t, root)
	if got := match.All(d, some, names); len(got) != 1 {
		t.Errorf("%v", got)
	}
	if spec, ok := match.Spec(d, some, names, subject{}); spec != (api.Spec{B: 1, C: 1}) || !ok {
		t.Errorf("%v", spec)
	}
}
