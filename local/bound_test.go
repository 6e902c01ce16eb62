package local_test

import (
	"slices"
	"strconv"
	"strings"
	"testing"

	"wattle/api"
	"wattle/local"
)

// names gives AtomTypes of as many names.
func names(size int) (out []atom) {
	for n := range size {
		out = append(out, typ("n"+strconv.Itoa(n)))
	}
	return out
}

// times gives an atom more than once.
func times(size int, a atom) []atom { return slices.Repeat(list(a), size) }

// attrs gives atoms of as many attributes of other names.
func attrs(size int) (out []atom) {
	for n := range size {
		out = append(out, within("", attr("n"+strconv.Itoa(n), 0, "")))
	}
	return out
}

// P13.3: each kind of group, what is there twice, all groups together, and up to 2^62.
func TestBound(t *testing.T) {
	const most = 1 << 62
	a, ua, u, v := typ("a"), within("u", typ("a")), within("u", typ("")), within("v", typ(""))
	// Of one condition of one character layer 7's Bound is 16, of two such 100 (or 80 if they are one text), of an empty text 9.
	x, y, ux, vx := attr("t", is, "x"), attr("t", is, "y"), within("u", attr("t", is, "x")), within("v", attr("t", is, "x"))
	for i, c := range []struct {
		list []atom
		want int
	}{
		{nil, 5}, {list(), 5},
		// AtomTypes: their names and their namespaces.
		{list(typ("")), 5}, {list(a), 9}, {list(a, a), 9}, {list(a, typ("")), 9}, {list(a, typ("b")), 13}, {list(ua), 17}, {list(a, ua), 17}, {list(u), 9}, {list(u, u), 9}, {list(u, v), 13}, {list(u, within("", typ(""))), 13}, {list(u, within("v", a)), 25}, {list(ua, within("v", a)), 25}, {list(ua, within("v", typ("b"))), 37}, {list(atom{Kind: api.AtomType, Space: "u", Name: "a"}), 9}, {list(atom{Kind: api.AtomType, Space: "u"}, u), 9}, {names(1000), 4*1001 + 1},
		// States.
		{list(state("hover")), 9}, {list(state("hover"), state("hover")), 9}, {list(state("hover"), state("focus")), 17}, {list(within("u", state("hover")), state("hover")), 9}, {list(state("hover"), a), 17}, {list(state("hover"), within("u", state("focus")), ua), 65},
		// Attributes: one place.
		{list(ux), 4*3 + 2*16 + 1}, {list(x), 4*3 + 2*16 + 1}, {list(class("x")), 4*3 + 2*16 + 1}, {list(attr("t", has, "")), 4*3 + 2*9 + 1}, {list(attr("t", 0, "")), 4*3 + 2*9 + 1}, {list(class("x"), class("y")), 4*5 + 2*80 + 1}, {list(class("x"), class("x")), 4*5 + 2*64 + 1}, {list(class("x"), class("y"), class("z")), 4*9 + 2*4*4*4*6 + 1}, {list(attr("t", is, "xyz")), 4*3 + 2*36 + 1}, {list(alike(ux)), 4*3 + 2*20 + 1},
		// More places, of one name.
		{list(ux, vx), 4*9 + 2*32 + 1}, {list(ux, within("", attr("t", is, "x"))), 4*9 + 2*32 + 1}, {list(ux, within("u", y)), 4*5 + 2*80 + 1}, {list(x, y), 4*25 + 2*160 + 1}, {list(x, x), 4*25 + 2*128 + 1}, {list(ux, x), 4*5*3 + 2*(64+16) + 1}, {list(x, ux), 4*5*3 + 2*(64+16) + 1}, {list(ux, y), 4*5*3 + 2*(80+16) + 1}, {list(ux, vx, y), 4*5*5*3 + 2*(80+80+16) + 1}, {list(ux, y, x), 4*9*5*5 + 2*(4*4*4*5+80+80) + 1}, {list(atom{Kind: api.AtomAttr, Space: "u", Name: "t", Cond: api.Cond{Op: is, Text: "x"}}, ux), 4*5*3 + 2*(64+16) + 1},
		// More names.
		{list(attr("t", is, "x"), attr("r", is, "x")), 4*9 + 2*32 + 1}, {list(ux, within("u", attr("r", is, "xy"))), 4*9 + 2*(16+25) + 1}, {list(x, ux, a, u, state("hover"), class("q")), 4*5*3*4*2*3 + 2*(64+16+16) + 1}, {list(state("hover"), a, x), 4*2*2*3 + 2*16 + 1},
		// Near 2^62, and above: by the letters, by their number four times, by layer 7's Bounds.
		{attrs(37), 4*450283905890997363 + 2*9*37 + 1}, {attrs(38), most}, {attrs(39), most}, {attrs(40), most}, {attrs(1000), most}, {append(attrs(37), state("hover")), 8*450283905890997363 + 2*9*37 + 1}, {append(attrs(37), a, typ("b")), most}, {append(attrs(37), a, state("hover")), most}, {append(attrs(36), names(6)...), 28*150094635296999121 + 2*9*36 + 1}, {append(attrs(36), names(7)...), most},
		{times(56, class("x")), most}, {times(100000, class("x")), most}, {times(100000, x), most}, {times(58, within("", attr("t", has, ""))), most}, {times(24, within("", attr("t", has, ""))), 4*(1<<24+1) + 2*282429536481*3 + 1}, {times(28, class("x")), 4*(1<<28+1) + 1<<59 + 1}, {times(29, class("x")), 4*(1<<29+1) + 1<<61 + 1}, {times(30, class("x")), most},
		{times(5, attr("t", has, "")), 4*39135393 + 2*5*729 + 1}, {times(7, attr("t", has, "")), 4*129*129*129*129*129*129*129 + 2*7*6561 + 1}, {times(8, attr("t", has, "")), most}, {times(20000, typ("a")), 9}, {times(20000, state("hover")), 9},
		{list(within("u", attr("t", is, strings.Repeat("x", 65533)))), 4*3 + 2*4*65536 + 1},
	} {
		if got := local.Bound(c.list); got != c.want {
			t.Errorf("%d: %d, not %d", i, got, c.want)
		}
	}
}
