package ask

import (
	"slices"
	"testing"

	"wattle/api"
	"wattle/dom"
	"wattle/flat"
	"wattle/match"
	"wattle/parse"
	"wattle/plant"
	"wattle/reach"
	"wattle/step"
)

// The paths that layer 16 finds have little that isn't needed, though it doesn't promise that. So here they are given more first.

// fuller gives a path whose elements have more, by numbers that follow from a seed.
func fuller(path []api.Move, seed uint32) (out []api.Move) {
	pick := func(n int) int {
		seed = seed*1664525 + 1013904223
		return int(seed>>8) % n
	}
	for _, m := range path {
		n := &m.Node
		n.Attrs, n.States = slices.Clone(n.Attrs), slices.Clone(n.States)
		for _, a := range []api.Attr{{Name: "class", Value: "x y"}, {Name: "id", Value: "i"}, {Name: "t", Value: "x"}, {Space: "u", Name: "t", Value: "x"}, {Name: "of no use"}} {
			if pick(3) > 0 && !slices.ContainsFunc(n.Attrs, func(b api.Attr) bool { return a.Space == b.Space && a.Name == b.Name }) {
				n.Attrs = slices.Insert(n.Attrs, pick(len(n.Attrs)+1), a)
			}
		}
		for _, s := range []string{"hover", "focus", "target"} {
			if pick(3) > 0 && !slices.Contains(n.States, s) {
				n.States = append(n.States, s)
			}
		}
		out = append(out, m)
	}
	return out
}

// full gives the document of a path, and how it stands to what is wanted.
func full(t *testing.T, p api.Plan, wants []api.Want, path []api.Move) (size, want int) {
	t.Helper()
	doc, err := plant.Doc(path)
	if err != nil {
		t.Fatal(path, err)
	}
	whole := &trail{plan: p, wants: wants, path: path, known: map[spot]int{}}
	return plant.Size(doc), whole.end(0, step.Start(p), path[0].Node)
}

// P18.5: of paths whose elements have more than is needed all that goes away that can, and no element.
func TestThinTrails(t *testing.T) {
	less, others := 0, 0
	for _, s := range []string{"*", "a", ".x", ".x, [t]", "#i[t], .y:hover", ".x::before, #i:focus, a", ".x::before, #i", "[t] > .x", ".x + .y", ".x ~ .y:not(.x + .y)", ":nth-child(2 of .x)", ":nth-child(3 of .x, [t]:hover)", ":nth-child(3 of .x):nth-child(2 of [t])", ":hover :hover:not([t])", ".x .x:not(a)", "[t] [t], .x > .x > .x", "a:is(.x, [t], :hover) > :nth-child(2n)", ":not(.x):not([t])", ".x:not(:nth-child(2 of .x)) ~ :hover", ":nth-child(4n of .x):nth-child(3)", ":nth-child(2 of :not([t]))", "[t] ~ :nth-child(3 of [t], .x):not([t] + *)", ":link, #i", ".x + *, * + :not([t])", ".x > .y > *, * > * > :not([t])", ":nth-child(6 of .x:hover, [*|t])"} {
		list, err := parse.Selectors([]byte(s), api.Names{})
		if err != nil {
			t.Fatal(s, err)
		}
		p, err := flat.Make([][]api.Complex{list}, api.Names{})
		if err != nil {
			t.Fatal(s, err)
		}
		wants := reach.One(p, 0)
		found, _, err := reach.Search(p, wants, 1<<20)
		if err != nil {
			t.Fatal(s, err)
		}
		for seed := range uint32(60) {
			if !found.OK {
				break
			}
			path := fuller(found.Path, seed)
			size, want := full(t, p, wants, path)
			if want == unwanted {
				continue
			}
			v, err := witness(p, wants, path)
			if err != nil || v.Kind != api.Yes || len(v.Doc) != len(found.Path) || plant.Size(v.Doc) > size {
				t.Fatalf("%q: %+v, %v", s, v, err)
			}
			checkThin(t, list, v)
			if plant.Size(v.Doc) < size {
				less++
			}
			if v.Subject.Pseudo != wants[want].Pseudo {
				others++
			}
		}
	}
	if less < 500 || others < 3 {
		t.Error(less, others)
	}
}

// checkThin tells by layers 12 and 17 whether a verdict's witness is one that a list selects, of which nothing can be left out.
func checkThin(t *testing.T, list []api.Complex, v api.Verdict) {
	t.Helper()
	selects := func(doc []api.Node, n int, pseudos ...string) bool {
		tree, err := dom.New(doc)
		return err == nil && slices.ContainsFunc(pseudos, func(s string) bool {
			return match.Selects(tree, list, api.Names{}, api.Subject{Node: n, Pseudo: s})
		})
	}
	thin, n, err := plant.Thin(v.Doc, v.Subject.Node, func(doc []api.Node, n int) bool { return selects(doc, n, "", "before") })
	if err != nil || !selects(v.Doc, v.Subject.Node, v.Subject.Pseudo) || n != v.Subject.Node || !dom.Same(thin, v.Doc) {
		t.Fatalf("%+v: %+v, then %+v, %v", list, v, thin, err)
	}
}
