package local_test

import (
	"math"
	"slices"
	"strings"
	"testing"

	"wattle/api"
	"wattle/dom"
	"wattle/local"
)

// lettersOf gives the letters of right atoms, which are right by themselves: each has its node, no row is there twice, and the steps are within their bound.
func lettersOf(t *testing.T, some []atom) []api.Letter {
	t.Helper()
	out, steps, err := local.Letters(some, local.Bound(some))
	if err != nil || steps < 1 || steps > local.Bound(some) {
		t.Fatalf("%v: %d, %d of %d, %v", some, len(out), steps, local.Bound(some), err)
	}
	spaced := slices.ContainsFunc(some, func(a atom) bool { return a.Kind == api.AtomType && a.HasSpace })
	seen := map[string]int{}
	for _, x := range out {
		seen[told(x.Holds)]++
		n := x.Node
		if len(x.Holds) != len(some) || seen[told(x.Holds)] != 1 || n.Kind != api.NodeElement || n.Parent != -1 || n.Text != "" || n.Space != "" && !spaced || dom.Check([]node{n}) != nil {
			t.Fatalf("%v: %v", some, x)
		}
		for i, a := range some {
			if holds(a, n) != x.Holds[i] {
				t.Fatalf("%v: %v", some, x)
			}
		}
	}
	return out
}

// rows tells the truths of letters, sorted.
func rows(letters []api.Letter) string {
	var out []string
	for _, x := range letters {
		out = append(out, told(x.Holds))
	}
	slices.Sort(out)
	return strings.Join(out, " ")
}

// P13.2: the rows of each kind of group, of some together, and those that there aren't.
func TestLetters(t *testing.T) {
	a, ua, u, v := typ("a"), within("u", typ("a")), within("u", typ("")), within("v", typ(""))
	x, y := attr("t", is, "x"), attr("t", is, "y")
	at := func(space string, a atom) atom { return within(space, a) }
	for i, c := range []struct {
		list []atom
		want string
	}{
		{nil, ""}, {list(), ""},
		// AtomTypes.
		{list(a), "0 1"}, {list(typ("")), "1"}, {list(a, a), "00 11"}, {list(a, typ("b")), "00 01 10"}, {list(a, typ("")), "01 11"}, {list(a, typ("A")), "00 01 10"},
		{list(u), "0 1"}, {list(at("", typ(""))), "0 1"}, {list(u, v), "00 01 10"}, {list(u, at("", typ(""))), "00 01 10"}, {list(ua), "0 1"}, {list(a, u), "00 01 10 11"}, {list(a, ua), "00 10 11"}, {list(u, ua), "00 10 11"}, {list(a, u, ua), "000 010 100 111"}, {list(ua, within("v", typ("b"))), "00 01 10"}, {list(ua, at("v", a)), "00 01 10"}, {list(ua, at("v", a), a), "000 001 011 101"}, {list(ua, at("u", typ("b")), u), "000 001 011 101"}, {list(ua, ua, typ("b"), v), "0000 0001 0010 0011 1100"}, {list(a, typ("b"), u, v), "0000 0001 0010 0100 0101 0110 1000 1001 1010"}, {list(typ(""), u, at("", a)), "100 101 110"},
		{list(atom{Kind: api.AtomType, Space: "u", Name: "a"}, ua), "00 10 11"}, {list(atom{Kind: api.AtomType, Space: "u"}, u), "10 11"},
		// States.
		{list(state("hover")), "0 1"}, {list(state("hover"), state("hover")), "00 11"}, {list(state("hover"), state("focus")), "00 01 10 11"}, {list(state("hover"), at("u", state("hover")), state("link")), "000 001 110 111"},
		// Attributes at one place.
		{list(at("", x)), "0 1"}, {list(at("u", x)), "0 1"}, {list(at("u", x), at("u", y)), "00 01 10"}, {list(at("u", x), at("u", x)), "00 11"}, {list(class("x"), class("y")), "00 01 10 11"}, {list(class("x"), class("x"), class("y")), "000 001 110 111"}, {list(at("", attr("t", has, "")), at("", x)), "00 10 11"}, {list(at("", attr("t", begin, "x")), at("", attr("t", end, "y"))), "00 01 10 11"}, {list(at("", alike(attr("t", is, "X"))), at("", x)), "00 10 11"}, {list(at("", attr("t", is, "xy")), at("", attr("t", part, "y")), at("", attr("t", begin, "z"))), "000 001 010 011 110"}, {list(at("", attr("t", dash, "en")), at("", attr("t", is, "en-")), at("", attr("t", is, "enx"))), "000 001 100 110"},
		// Conditions that never hold.
		{list(attr("t", 0, "x")), "0"}, {list(at("u", attr("t", 9, ""))), "0"}, {list(attr("t", word, "")), "0"}, {list(at("", attr("t", word, "a b"))), "0"}, {list(attr("t", part, ""), attr("t", begin, ""), x), "000 001"}, {list(at("u", attr("t", 8, "")), attr("t", has, "")), "00 01"}, {list(attr("t", -1, ""), typ("a"), state("hover")), "000 001 010 011"},
		// Attributes at more places.
		{list(x), "0 1"}, {list(x, y), "00 01 10 11"}, {list(x, x), "00 11"}, {list(at("u", x), at("v", x)), "00 01 10 11"}, {list(at("u", x), at("v", y)), "00 01 10 11"}, {list(at("", x), x), "00 01 11"}, {list(x, at("", x)), "00 10 11"}, {list(at("u", x), y), "00 01 10 11"}, {list(at("u", x), at("u", y), x), "000 001 010 011 101"}, {list(at("u", x), at("u", y), x, y), "0000 0001 0010 0011 0101 0111 1010 1011"}, {list(at("u", attr("t", has, "")), attr("t", has, "")), "00 01 11"}, {list(attr("t", has, ""), x, y), "000 100 101 110 111"}, {list(attr("t", word, "x"), attr("t", is, "x")), "00 10 11"}, {list(at("", attr("t", 0, "")), x, y), "000 001 010 011"}, {list(at("u", attr("t", part, "xy")), attr("t", begin, "x"), attr("t", end, "y")), "000 001 010 011 100 101 110 111"}, {list(at("u", x), at("v", x), x), "000 001 011 101 111"}, {list(x, y, attr("t", is, "z"), attr("t", is, "w")), "0000 0001 0010 0011 0100 0101 0110 0111 1000 1001 1010 1011 1100 1101 1110 1111"},
		{list(atom{Kind: api.AtomAttr, Space: "u", Name: "t", Cond: x.Cond}, at("u", x)), "00 10 11"},
		// Attributes of other names, and all together.
		{list(x, attr("r", is, "x")), "00 01 10 11"}, {list(x, attr("T", is, "x")), "00 01 10 11"}, {list(at("u", x), at("u", attr("r", is, "x")), at("u", y)), "000 001 010 011 100 110"}, {list(state("hover"), typ("a"), class("hover"), attr("hover", has, "")), "0000 0001 0010 0011 0100 0101 0110 0111 1000 1001 1010 1011 1100 1101 1110 1111"}, {list(typ("a"), state("hover"), typ("b"), state("hover")), "0000 0010 0101 0111 1000 1101"}, {list(attr("a", has, ""), typ("a"), attr("a", is, "x")), "000 010 100 101 110 111"},
	} {
		if got := rows(lettersOf(t, c.list)); got != c.want {
			t.Errorf("%d: %s, not %s", i, got, c.want)
		}
	}
}

// The chapter's example: an element a and one of another name.
func TestExample(t *testing.T) {
	got := map[bool]node{}
	for _, x := range lettersOf(t, list(typ("a"))) {
		got[x.Holds[0]] = x.Node
	}
	if len(got) != 2 || got[true].Name != "a" || got[false].Name == "a" || len(got[true].Attrs)+len(got[false].Attrs) > 0 || len(got[true].States)+len(got[false].States) > 0 {
		t.Error(got)
	}
}

// P13.2: a name, and namespaces, that none of the atoms asks for, whatever these are.
func TestOthers(t *testing.T) {
	var taken []string
	for c := 'a'; c <= 'z'; c++ {
		taken = append(taken, string(c))
		for d := 'a'; d <= 'z'; d++ {
			taken = append(taken, string(c)+string(d))
		}
	}
	var types, spaces, free []atom
	for _, s := range taken {
		types, spaces = append(types, typ(s)), append(spaces, within(s, typ("")))
	}
	for i, some := range [][]atom{types, spaces, append(spaces, within("", typ(""))), append(types[:26:26], spaces[:26]...)} {
		want := []int{703, 703, 704, 27 * 27}[i]
		if got := len(lettersOf(t, some)); got != want {
			t.Errorf("%d: %d", i, got)
		}
	}
	for _, s := range append([]string{""}, "a", "b", "d") {
		free = append(free, within(s, attr("t", is, "x")))
	}
	free = append(free, attr("t", is, "y"), attr("t", is, "z"), attr("t", is, "w"))
	if got := len(lettersOf(t, free)); got != 1<<7 {
		t.Error(got)
	}
}

// P13.2, P2: budgets from far below to far above what is needed.
func TestBudgets(t *testing.T) {
	for i, some := range [][]atom{
		nil, list(typ("a")), list(typ("")), list(typ("a"), within("u", typ("b")), within("v", typ(""))), list(state("hover")), list(state("hover"), state("focus"), state("hover")), list(class("x")), list(class("x"), class("y"), typ("b"), state("link")), list(attr("t", is, "x"), attr("t", is, "y"), within("u", attr("t", part, "x"))), list(attr("t", has, ""), attr("r", has, ""), attr("s", 0, ""), within("", attr("s", is, "ab"))), list(within("u", attr("t", has, "")), within("v", attr("t", has, "")), within("w", attr("t", is, ""))),
	} {
		want, steps, err := local.Letters(some, enough)
		bound := local.Bound(some)
		if err != nil || steps < len(want) || steps > bound {
			t.Errorf("%d: %d, %v", i, steps, err)
		}
		for budget := range steps + 3 {
			checkBudget(t, some, budget, want, steps)
		}
		for _, budget := range []int{math.MinInt, math.MinInt + 1, -1 << 32, -2, -1, steps * 2, bound, bound + 1, 1<<32 + 1, math.MaxInt} {
			checkBudget(t, some, budget, want, steps)
		}
	}
}

func checkBudget(t *testing.T, some []atom, budget int, want []api.Letter, steps int) {
	t.Helper()
	got, n, err := local.Letters(some, budget)
	if budget >= steps {
		if err != nil || n != steps || !same(got, want) {
			t.Errorf("%v, %d: %d, %d, %v", some, budget, len(got), n, err)
		}
	} else if !isFault(err, api.ErrLimit, 0) || len(got) > 0 || n < 0 || n > max(0, budget) {
		t.Errorf("%v, %d: %d, %d, %v", some, budget, len(got), n, err)
	}
}
