package reach_test

import (
	"testing"

	"wattle/api"
	"wattle/local"
	"wattle/reach"
)

// long is up to how many elements paths are gone through one by one.
const long = 4

// lettersOf gives the letters of a plan's atoms.
func lettersOf(t *testing.T, p api.Plan) []api.Letter {
	t.Helper()
	letters, _, err := local.Letters(p.Atoms, enough)
	if err != nil {
		t.Fatalf("%+v: %v", p, err)
	}
	return letters
}

// paths goes through all paths of so many elements of some kinds.
func paths(kinds []api.Node, many int, look func(path []api.Move) bool) {
	var path []api.Move
	var more func() bool
	more = func() bool {
		if len(path) == many {
			return look(path)
		}
		for _, n := range kinds {
			for _, down := range []bool{false, true} {
				if down != (len(path) == 1) && len(path) < 2 {
					continue
				}
				path = append(path, api.Move{Down: down, Node: n})
				ok := more()
				path = path[:len(path)-1]
				if !ok {
					return false
				}
			}
		}
		return true
	}
	more()
}

// least gives by layer 12 how many elements the least path to an element that is wanted has; 0, if none has up to as many as are gone through.
func (a asked) least(t *testing.T, wants []api.Want, upTo int) (out int) {
	t.Helper()
	for many := 1; many <= upTo && out == 0; many++ {
		paths(kinds(), many, func(path []api.Move) bool {
			if a.wanted(treeOf(t, docOf(path)), wants, many-1) >= 0 {
				out = many
			}
			return out == 0
		})
	}
	return out
}

// P16.2: many lists, held against all small paths: one with fewer elements is never there, and what isn't found isn't there.
func TestByTheWords(t *testing.T) {
	found := map[int]int{}
	for seed := range uint32(800) {
		m := &maker{seed}
		a := askOf(t, api.Names{}, m.lists(2)...)
		for _, wants := range [][]api.Want{reach.One(a.plan, 0), reach.Both(a.plan, 0, 1), reach.Only(a.plan, 0, 1), m.wants(a.plan)} {
			f := search(t, a, wants)
			upTo := long
			if f.OK {
				upTo = min(long, len(f.Path))
			}
			if got := a.least(t, wants, upTo); got != len(f.Path) && (got > 0 || len(f.Path) <= long && f.OK) {
				t.Fatalf("%d: %+v, %+v: %+v, not of %d elements", seed, a.lists, wants, f, got)
			}
			found[len(f.Path)]++
		}
	}
	for many, least := range []int{700, 700, 200, 250, 80, 15} {
		if found[many] < least {
			t.Errorf("just %d have %d elements", found[many], many)
		}
	}
}

// P16.2: of what isn't found many documents have none.
func TestNoneInDocuments(t *testing.T) {
	none := 0
	for seed := range uint32(12000) {
		m := &maker{seed}
		a := askOf(t, api.Names{}, m.lists(2)...)
		wants := [][]api.Want{reach.One(a.plan, 0), reach.Both(a.plan, 0, 1), reach.Only(a.plan, 0, 1), m.wants(a.plan)}[m.pick(4)]
		f, _, err := reach.Search(a.plan, wants, enough)
		if err != nil {
			t.Fatal(err)
		}
		if f.OK {
			continue
		}
		none++
		for range 6 {
			doc := m.doc(1 + m.pick(20))
			tree := treeOf(t, doc)
			for _, n := range tree.Elements() {
				if a.wanted(tree, wants, n) >= 0 {
					t.Fatalf("%+v, %+v: %+v, %d", a.lists, wants, doc, n)
				}
			}
		}
	}
	if none < 1000 {
		t.Errorf("just %d aren't found", none)
	}
}
