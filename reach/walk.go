package reach

import (
	"slices"

	"wattle/api"
	"wattle/step"
)

// place is a context that was found, and its number among all that were.
type place struct {
	number  int
	context api.Context
}

// way is how a context was found first: behind which letter, at the context of which number, and whether beneath it.
type way struct {
	from, letter int
	down         bool
}

// walk goes through all contexts that elements may have. It comes to each one first along the least number of elements, as contexts are gone on from in the order in which they were found.
type walk struct {
	plan    api.Plan
	letters []api.Letter
	seen    map[string]struct{} // the contexts' Keys
	ways    []way               // of all contexts that were found
	waiting []place             // those of them that the walk is still to stand at

	here  place
	asked map[string]struct{} // the Keys of the truths that were met there
}

// newWalk begins a walk: the element without one above comes first.
func newWalk(p api.Plan, letters []api.Letter) *walk {
	w := &walk{plan: p, letters: letters, seen: map[string]struct{}{}, asked: map[string]struct{}{}}
	w.arrive(step.Start(p), way{from: -1})
	return w
}

// stand goes to the next context, if there is one.
func (w *walk) stand() bool {
	if len(w.waiting) == 0 {
		return false
	}
	w.here, w.waiting = w.waiting[0], w.waiting[1:]
	clear(w.asked)
	return true
}

// ask gives the truths of the steps of a letter's element; none, if another letter had the same ones here, as nothing else hangs on letters.
func (w *walk) ask(letter int) ([]bool, bool) {
	truths := step.Truths(w.plan, w.here.context, w.letters[letter].Holds)
	return truths, isNew(w.asked, step.Key(api.Context{Left: truths}))
}

// leave goes on from a letter's element: beneath it, and beside it, but that nothing is beside the element without one above.
func (w *walk) leave(letter int, truths []bool) {
	c := w.here.context
	w.arrive(step.Down(w.plan, c, truths), way{w.here.number, letter, true})
	if !c.Root {
		w.arrive(step.Next(w.plan, c, truths), way{w.here.number, letter, false})
	}
}

// arrive keeps a context, if it is new.
func (w *walk) arrive(c api.Context, how way) {
	if isNew(w.seen, step.Key(c)) {
		w.waiting = append(w.waiting, place{len(w.ways), c})
		w.ways = append(w.ways, how)
	}
}

// path gives the elements up to that of a letter, which is the last one.
func (w *walk) path(letter int) (out []api.Move) {
	for at := w.here.number; at >= 0; at, letter = w.ways[at].from, w.ways[at].letter {
		out = append(out, api.Move{Down: w.ways[at].down, Node: copyNode(w.letters[letter].Node)})
	}
	slices.Reverse(out)
	return out
}

// copyNode gives a node with lists of its own, as a letter may be met more than once.
func copyNode(n api.Node) api.Node {
	n.Attrs, n.States = slices.Clone(n.Attrs), slices.Clone(n.States)
	return n
}

// isNew puts a text among those that were seen, and tells whether it wasn't there.
func isNew(seen map[string]struct{}, s string) bool {
	if _, ok := seen[s]; ok {
		return false
	}
	seen[s] = struct{}{}
	return true
}
