package match

import (
	"iter"
	"slices"

	"wattle/api"
	"wattle/dom"
	"wattle/sel"
)

// look is a look at a document's elements. It keeps what it has found out, so that of one element nothing is asked over and over.
type look struct {
	tree   *dom.Tree
	names  api.Names
	ways   kept[chain]       // does a chain fit an element that a way leads to: api.Yes, or api.No
	counts kept[*api.Simple] // how many elements of its row, up to it, a SelNth counts, and one more
}

// chain is the first compounds of a selector.
type chain struct {
	first *api.Compound
	size  int
}

func newLook(t *dom.Tree, names api.Names) *look {
	return &look{tree: t, names: names, ways: kept[chain]{}, counts: kept[*api.Simple]{}}
}

// list tells whether a list within a simple selector selects an element.
func (l *look) list(list []api.Complex, n int) bool {
	return slices.ContainsFunc(list, func(c api.Complex) bool { return l.selects(c, api.Subject{Node: n}) })
}

// selects tells whether a selector selects an element, or a pseudo-element of it.
func (l *look) selects(c api.Complex, s api.Subject) bool {
	return len(c.List) > 0 && sel.Pseudo(c) == s.Pseudo && l.fit(c.List, s.Node)
}

// fit tells whether the last of some compounds fits an element, and those ahead of it fit others, as their Combs want these to stand.
func (l *look) fit(list []api.Compound, n int) bool {
	for ok := true; ok; {
		last := list[len(list)-1]
		list = list[:len(list)-1]
		switch {
		case !l.compound(last.List, n):
			return false
		case len(list) == 0:
			return true
		}
		switch last.Comb {
		case api.CombChild:
			n, ok = l.tree.Parent(n)
		case api.CombNext:
			n, ok = l.tree.Ahead(n)
		case api.CombBelow:
			return l.fitSome(list, n, l.tree.Parent)
		case api.CombLater:
			return l.fitSome(list, n, l.tree.Ahead)
		default:
			return false
		}
	}
	return false
}

// fitSome tells whether some compounds fit one of the elements that a way leads to from another one.
func (l *look) fitSome(list []api.Compound, n int, way func(int) (int, bool)) bool {
	c := chain{first: &list[0], size: len(list)}
	known := l.ways.of(c, n)
	if *known != 0 {
		return *known == api.Yes
	}
	answer, passed := int32(api.No), []*int32{known}
	for m := range along(n, way) {
		known := l.ways.of(c, m)
		if *known == api.Yes || l.fit(list, m) {
			answer = api.Yes
			break
		}
		if *known == api.No {
			break
		}
		passed = append(passed, known)
	}
	for _, known := range passed {
		*known = answer
	}
	return answer == api.Yes
}

// isCounted tells whether a SelNth counts an element.
func (l *look) isCounted(s *api.Simple, n int) bool { return len(s.Of) == 0 || l.list(s.Of, n) }

// count tells how many elements of an element's row, up to it, a SelNth counts.
func (l *look) count(s *api.Simple, n int) int {
	sum, passed := int32(1), []int{}
	for m, ok := n, true; ok; m, ok = l.tree.Ahead(m) {
		if known := *l.counts.of(s, m); known != 0 {
			sum = known
			break
		}
		passed = append(passed, m)
	}
	for _, m := range slices.Backward(passed) {
		if l.isCounted(s, m) {
			sum++
		}
		*l.counts.of(s, m) = sum
	}
	return int(sum) - 1
}

// along goes through the elements that a way leads to from another one.
func along(n int, way func(int) (int, bool)) iter.Seq[int] {
	return func(yield func(int) bool) {
		for m, ok := way(n); ok && yield(m); m, ok = way(m) {
		}
	}
}
