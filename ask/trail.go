package ask

import (
	"strings"

	"wattle/api"
	"wattle/local"
	"wattle/plant"
	"wattle/reach"
	"wattle/step"
)

// trail is a path to an element that is wanted. No path to such a one has fewer elements, so none of these can be left out; but they may have more than is needed.
type trail struct {
	plan  api.Plan
	wants []api.Want
	path  []api.Move
	known map[spot]int // what wants the last element, if the one at a spot's place has that context
}

// spot is a place in a path, and the Key of a context there.
type spot struct {
	at  int
	key string
}

// unwanted stands for the place of a want where none wants an element.
const unwanted = -1

// witness gives a verdict that there is what one of some wants wants, with the document of a path to it, of which nothing can be left out.
func witness(p api.Plan, wants []api.Want, path []api.Move) (api.Verdict, error) {
	t := &trail{plan: p, wants: wants, path: path, known: map[spot]int{}}
	for t.thin() {
	}
	doc, err := plant.Doc(t.path)
	if err != nil {
		return api.Verdict{}, err
	}
	s := api.Subject{Node: len(doc) - 1}
	if want := t.end(0, step.Start(p), path[0].Node); want != unwanted {
		s.Pseudo = strings.Clone(wants[want].Pseudo)
	}
	return api.Verdict{Kind: api.Yes, Doc: doc, Subject: s}, nil
}

// thin takes away from each element what isn't needed for the last one to be wanted, and tells whether there was anything. Then others ahead may need less than before.
func (t *trail) thin() (less bool) {
	clear(t.known) // it was found out of elements that had more
	c := step.Start(t.plan)
	for at := range t.path {
		less = t.thinOne(at, c) || less
		c = t.leave(at, c, t.truths(c, t.path[at].Node))
	}
	return less
}

// thinOne takes away from one element, which has a context, what isn't needed.
func (t *trail) thinOne(at int, c api.Context) bool {
	one := []api.Node{t.path[at].Node}
	if plant.Size(one) == 1 {
		return false
	}
	thin, _, err := plant.Thin(one, 0, func(doc []api.Node, n int) bool { return t.end(at, c, doc[n]) != unwanted })
	if err != nil || plant.Size(thin) == plant.Size(one) {
		return false
	}
	t.path[at].Node = thin[0]
	return true
}

// end gives the place of what wants the path's last element, if another element, which has a context, stands at a place.
func (t *trail) end(at int, c api.Context, n api.Node) int {
	var passed []spot
	want, known := 0, false
	for !known {
		truths := t.truths(c, n)
		if at++; at == len(t.path) {
			want = t.wanted(truths)
			break
		}
		c, n = t.leave(at-1, c, truths), t.path[at].Node
		s := spot{at, step.Key(c)}
		want, known = t.known[s]
		passed = append(passed, s)
	}
	for _, s := range passed {
		t.known[s] = want
	}
	return want
}

// wanted gives the place of what wants an element with such truths.
func (t *trail) wanted(truths []bool) int {
	if want, ok := reach.Wanted(t.wants, step.Selected(t.plan, truths)); ok {
		return want
	}
	return unwanted
}

// truths gives which steps fit an element with a context.
func (t *trail) truths(c api.Context, n api.Node) []bool {
	holds := make([]bool, len(t.plan.Atoms))
	for i, a := range t.plan.Atoms {
		holds[i] = local.Holds(a, n)
	}
	return step.Truths(t.plan, c, holds)
}

// leave gives the context of the element behind one at a place, if there is one.
func (t *trail) leave(at int, c api.Context, truths []bool) api.Context {
	if at+1 < len(t.path) && !t.path[at+1].Down {
		return step.Next(t.plan, c, truths)
	}
	return step.Down(t.plan, c, truths)
}
