package local_test

import (
	"testing"

	"wattle/api"
	"wattle/value"
)

// masks are sets of atoms of a list, each by the bits of their places.
type masks map[uint]struct{}

func (m masks) add(mask uint) { m[mask] = struct{}{} }

// mask tells which atoms of a kind hold of an element, by the chapter's words.
func mask(some []atom, kind int, n node) (out uint) {
	for i, a := range some {
		if a.Kind == kind && holds(a, n) {
			out |= 1 << i
		}
	}
	return out
}

// joined gives the sets that come of two, one of each.
func joined(a, b masks) masks {
	out := masks{}
	for x := range a {
		for y := range b {
			out.add(x | y)
		}
	}
	return out
}

var (
	someNames  = []string{"a", "b", "c"}
	someSpaces = []string{"", "u", "v", "p", "q", "r", "s"} // of the last four no atom here asks for one
	someValues = tellingValues()
)

// tellingValues gives one short value for each row that the pool's conditions have of these.
func tellingValues() (out []string) {
	all, seen := pool(), map[string]int{}
	for _, v := range texts("xyX -", 7) {
		truths := make([]bool, len(all))
		for i, a := range all {
			truths[i] = value.Holds(a.Cond, v)
		}
		if seen[told(truths)]++; seen[told(truths)] == 1 {
			out = append(out, v)
		}
	}
	return out
}

// texts gives all texts of up to some characters of an alphabet.
func texts(alphabet string, most int) []string {
	out := []string{""}
	for from := 0; most > 0; most-- {
		end := len(out)
		for _, s := range out[from:end] {
			for _, c := range alphabet {
				out = append(out, s+string(c))
			}
		}
		from = end
	}
	return out
}

// byWords gives the rows of atoms that small elements have.
func byWords(some []atom) masks {
	out := masks{}
	for _, name := range someNames {
		for _, space := range someSpaces {
			out.add(mask(some, api.AtomType, el(space, name)))
		}
	}
	for _, name := range []string{"t", "class"} {
		for _, space := range someSpaces {
			one := masks{0: {}}
			for _, v := range someValues {
				one.add(mask(some, api.AtomAttr, el("", "a", api.Attr{Space: space, Name: name, Value: v})))
			}
			out = joined(out, one)
		}
	}
	for _, name := range []string{"hover", "link"} {
		out = joined(out, masks{0: {}, mask(some, api.AtomState, in(el("", "a"), name)): {}})
	}
	return out
}

// pool are the atoms of which lists are made. Each row that some of them have is one that a small element has.
func pool() []atom {
	out := list(state("hover"), state("link"), typ(""), typ("a"), typ("b"), within("", typ("")), within("u", typ("")), within("u", typ("a")), within("v", typ("a")), within("v", typ("b")), atom{Kind: api.AtomType, Space: "u"})
	for _, a := range list(attr("t", has, ""), attr("t", is, "x"), alike(attr("t", is, "x")), attr("t", is, ""), attr("t", begin, "x"), attr("t", end, "y"), attr("t", part, "xy"), attr("t", word, "x"), attr("t", dash, "x"), attr("t", 0, "x")) {
		out = append(out, a, within("", a), within("u", a))
	}
	return append(out, class("x"), class("y"), attr("class", word, "x"), attr("class", is, "y"), within("v", attr("t", is, "y")), attr("t", is, "y"))
}

// checkByWords holds the letters of atoms against the rows that small elements have.
func checkByWords(t *testing.T, some []atom) {
	t.Helper()
	want := byWords(some)
	letters := lettersOf(t, some)
	for _, x := range letters {
		got := uint(0)
		for i, truth := range x.Holds {
			if truth {
				got |= 1 << i
			}
		}
		if _, ok := want[got]; !ok {
			t.Fatalf("%v: %v", some, x)
		}
	}
	if len(letters) != len(want) {
		t.Fatalf("%v: %s, not %b", some, rows(letters), want)
	}
}

// P13.2: all atoms one by one, and two by two.
func TestPairsByTheWords(t *testing.T) {
	all := pool()
	for _, a := range all {
		checkByWords(t, list(a))
		for _, b := range all {
			checkByWords(t, list(a, b))
		}
	}
}

// P13.2: atoms three by three, and four by four.
func TestMoreByTheWords(t *testing.T) {
	m, all := maker{1}, pool()
	for i := range 1500 {
		var some []atom
		for range 3 + i%2 {
			some = append(some, one(&m, all...))
		}
		checkByWords(t, some)
	}
}

// P13.2: the row that an element has is told, whatever it is, of many atoms.
func TestElementsByTheWords(t *testing.T) {
	m, all := maker{2}, pool()
	for i := range 400 {
		var some []atom
		for range 1 + i%9 {
			some = append(some, one(&m, all...))
		}
		found := map[string]int{}
		for _, x := range lettersOf(t, some) {
			found[told(x.Holds)]++
		}
		for range 200 {
			n := anElement(&m)
			truths := make([]bool, len(some))
			for k, a := range some {
				truths[k] = holds(a, n)
			}
			if found[told(truths)] != 1 {
				t.Fatalf("%v: %s of %v", some, told(truths), n)
			}
		}
	}
}

// anElement gives a right element, like what the pool's atoms ask for.
func anElement(m *maker) node {
	n := el(one(m, someSpaces...), one(m, someNames...))
	for _, name := range []string{"t", "class", "r"} {
		for _, space := range someSpaces {
			if m.pick(3) == 0 {
				value := one(m, "x", "y", "xy", "X", "")
				for m.pick(2) == 0 {
					value += one(m, " ", "x", "y", "-", "z")
				}
				n.Attrs = append(n.Attrs, api.Attr{Space: space, Name: name, Value: value})
			}
		}
	}
	for _, name := range states {
		if m.pick(2) == 0 {
			n.States = append(n.States, name)
		}
	}
	return n
}
