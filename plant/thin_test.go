package plant_test

import (
	"slices"
	"strconv"
	"strings"
	"testing"

	"wattle/api"
	"wattle/dom"
	"wattle/match"
	"wattle/parse"
	"wattle/plant"
)

// thin takes away what a test doesn't need, and holds what stays against the chapter's words.
func thin(t *testing.T, doc []node, n int, test func(doc []node, n int) bool) ([]node, int) {
	t.Helper()
	out, at, err := plant.Thin(doc, n, func(now []node, k int) bool {
		if dom.Check(now) != nil || k < 0 || k >= len(now) || now[k].Kind != api.NodeElement || now[k].Name != doc[n].Name {
			t.Fatalf("%+v, %d: asked of %+v, %d", doc, n, now, k)
		}
		return test(now, k)
	})
	if err != nil || !right(out) || plant.Size(out) > plant.Size(doc) || at < 0 || at >= len(out) || out[at].Name != doc[n].Name || !test(out, at) {
		t.Fatalf("%+v, %d: %+v, %d, %v", doc, n, out, at, err)
	}
	smaller(out, at, func(less []node, k int) {
		if test(less, k) {
			t.Fatalf("%+v, %d: %+v, %d, and less: %+v, %d", doc, n, out, at, less, k)
		}
	})
	return out, at
}

// P17.3: tests that need nothing, everything, or something, and what is left for them.
func TestThin(t *testing.T) {
	doc := family()
	doc[1], doc[4], doc[10] = with(doc[1], "t", "u"), with(doc[4], "t", "u"), in(with(doc[10], "t"), "focus", "hover")
	has := func(n node, attr string) bool {
		return slices.ContainsFunc(n.Attrs, func(a api.Attr) bool { return a.Name == attr })
	}
	c := func(now []node, n int) bool {
		return slices.ContainsFunc(now, func(n node) bool { return n.Name == "c" })
	}
	for i, x := range []struct {
		n    int
		test func(doc []node, n int) bool
		want []node
		at   int
	}{
		{1, func([]node, int) bool { return true }, []node{el(-1, "r")}, 0},
		{10, func([]node, int) bool { return true }, []node{el(-1, "r"), el(0, "b"), el(1, "e")}, 2},
		{7, func([]node, int) bool { return true }, []node{el(-1, "r"), el(0, "d")}, 1},
		{10, func(now []node, n int) bool { return dom.Same(now, doc) }, doc, 10},
		{10, func(now []node, n int) bool { return has(now[n], "t") }, []node{el(-1, "r"), el(0, "b"), with(el(1, "e"), "t")}, 2},
		{10, func(now []node, n int) bool { return slices.Contains(now[n].States, "hover") }, []node{el(-1, "r"), el(0, "b"), in(el(1, "e"), "hover")}, 2},
		{10, func(now []node, n int) bool { return has(now[now[n].Parent], "u") }, []node{el(-1, "r"), with(el(0, "b"), "u"), el(1, "e")}, 2},
		{10, func(now []node, n int) bool { return len(now[n].States)+len(now[n].Attrs) > 2 }, []node{el(-1, "r"), el(0, "b"), in(with(el(1, "e"), "t"), "focus", "hover")}, 2},
		{7, func(now []node, n int) bool { return now[0].Kind == api.NodeComment }, []node{comment(-1), el(-1, "r"), el(1, "d")}, 2},
		{7, func(now []node, n int) bool { return len(now) == 11 }, family(), 7},
		{1, c, []node{el(-1, "r"), el(0, "a"), el(1, "c")}, 0},
		{4, c, []node{el(-1, "r"), el(0, "a"), el(0, "b"), el(1, "c")}, 2},
	} {
		out, at := thin(t, doc, x.n, x.test)
		if at != x.at || !dom.Same(out, x.want) {
			t.Errorf("%d: %+v, %d", i, out, at)
		}
	}
}

// P17.3, the chapter's example: an element with ten attributes; each one of them, and some.
func TestAttributes(t *testing.T) {
	top := el(-1, "a")
	for i := range 10 {
		top = with(top, "t"+strconv.Itoa(i))
	}
	names := func(doc []node) (out []string) {
		for _, a := range doc[0].Attrs {
			out = append(out, a.Name)
		}
		return out
	}
	for set := range 1 << 10 {
		var want []string
		for i := range 10 {
			if set>>i&1 == 1 {
				want = append(want, "t"+strconv.Itoa(i))
			}
		}
		out, _ := thin(t, []node{top}, 0, func(doc []node, n int) bool {
			got := names(doc)
			return !slices.ContainsFunc(want, func(s string) bool { return !slices.Contains(got, s) })
		})
		if !slices.Equal(names(out), want) {
			t.Fatalf("%v, not %v", names(out), want)
		}
	}
}

// P17.3: what can go only when all ahead of it, but for one that stays, has gone.
func TestOneBehindAnother(t *testing.T) {
	top := el(-1, "a")
	for i := range 10 {
		top = in(with(top, "t"+strconv.Itoa(i)), "hover", "focus")
	}
	out, _ := thin(t, []node{top}, 0, func(doc []node, n int) bool {
		here := make([]bool, 10)
		for _, a := range doc[0].Attrs {
			here[a.Name[1]-'0'] = true
		}
		some := here[4]
		for i, is := range here {
			some = some && (is || i == 4 || !slices.Contains(append(here[:min(i, 4):min(i, 4)], here[min(i, 5):i]...), true))
		}
		return some && (len(doc[0].States) > 0 || len(doc[0].Attrs) == 1) && !slices.Equal(doc[0].States, []string{"focus"})
	})
	if want := with(el(-1, "a"), "t4"); !dom.Same(out, []node{want}) {
		t.Errorf("%+v", out)
	}
}

// P17.3: tests that are true of less where they are false of more: nothing by itself can go in the end.
func TestUnevenTests(t *testing.T) {
	for seed := range uint32(1500) {
		m := &maker{seed}
		doc, n := m.doc(1 + m.pick(9))
		check(t, doc)
		size := plant.Size(doc)
		by, rest := 1+m.pick(5), m.pick(size+1)
		whole := len(doc)
		thin(t, doc, n, func(now []node, k int) bool { return (size-plant.Size(now))%by == 0 })
		thin(t, doc, n, func(now []node, k int) bool { return (whole-len(now))%by == 0 && plant.Size(now) >= rest })
		thin(t, doc, n, func(now []node, k int) bool { return k == n || len(now[k].Attrs) > len(doc[n].Attrs)/2 })
		thin(t, doc, n, func(now []node, k int) bool { return len(now) == len(doc) || len(now) < len(doc)-by })
		thin(t, doc, n, func(now []node, k int) bool {
			return plant.Size(now) == size || plant.Size(now)*7919%11 < 4
		})
	}
}

// P17.3: what lists select.
func TestSelected(t *testing.T) {
	less := 0
	for seed := range uint32(1500) {
		m := &maker{seed}
		doc, n := m.doc(1 + m.pick(25))
		list, err := parse.Selectors([]byte(one(m, "*", "[t]", ".v", "* > *", "* * *", "* + *", "[t] ~ *", ":hover *", ":focus > :not(:hover)", ":nth-child(2)", ":nth-child(2n of [id])", ":not([t])", ":root", "[t], #v:hover, :focus + *")), api.Names{})
		if err != nil {
			t.Fatal(err)
		}
		test := func(doc []node, n int) bool {
			tree, err := dom.New(doc)
			return err == nil && match.Selects(tree, list, api.Names{}, api.Subject{Node: n})
		}
		if !test(doc, n) {
			if out, at, err := plant.Thin(doc, n, test); !isFault(err, api.ErrArg, 0) || out != nil || at != 0 {
				t.Fatalf("%+v, %d: %v", doc, n, err)
			}
			continue
		}
		if out, _ := thin(t, doc, n, test); len(out) < len(doc) {
			less++
		}
	}
	if less < 400 {
		t.Error(less)
	}
}

// P1, P17.3: a test that answers by chance comes to an end.
func TestTestsByChance(t *testing.T) {
	for seed := range uint32(300) {
		m := &maker{seed}
		doc, n := m.doc(1 + m.pick(12))
		out, at, err := plant.Thin(doc, n, func([]node, int) bool { return m.pick(3) > 0 })
		if err == nil && (!right(out) || out[at].Name != doc[n].Name) || err != nil && !isFault(err, api.ErrArg, 0) {
			t.Fatalf("%+v, %d: %+v, %d, %v", doc, n, out, at, err)
		}
	}
}

// P1, P17.3: great documents of which little is needed, and less great ones of which everything is.
func TestGreat(t *testing.T) {
	wide, deep, lone := []node{el(-1, "a")}, []node{el(-1, "a")}, el(-1, "a")
	for i := range 20000 {
		wide, deep, lone = append(wide, with(el(0, "b"), "t")), append(deep, with(el(i, "b"), "t")), with(lone, "t"+strconv.Itoa(i))
	}
	needs := func(n int) func([]node, int) bool {
		return func(doc []node, _ int) bool { return plant.Size(doc) >= n }
	}
	for i, x := range []struct {
		doc     []node
		n, size int
		test    func([]node, int) bool
	}{
		{wide, 0, 1, needs(1)}, {wide, 20000, 2, needs(1)}, {wide, 10000, 30, needs(30)}, {deep, 0, 1, needs(1)}, {deep, 500, 501, needs(1)}, {deep, 100, 130, needs(130)}, {[]node{lone}, 0, 1, needs(1)}, {[]node{lone}, 0, 700, needs(700)},
		{wide[:700], 0, 1399, needs(1399)}, {deep[:700], 699, 1399, needs(1399)}, {[]node{lone}, 0, 2, func(doc []node, n int) bool { return len(doc[0].Attrs) > 0 && doc[0].Attrs[0].Name == "t0" }},
	} {
		if out, at, err := plant.Thin(x.doc, x.n, x.test); err != nil || plant.Size(out) != x.size || !right(out) || out[at].Name != x.doc[x.n].Name {
			t.Errorf("%d: %d, %d, %v", i, plant.Size(out), at, err)
		}
	}
	path := slices.Repeat([]api.Move{down(el(-1, "a"))}, 100000)
	path[0].Down = false
	doc, err := plant.Doc(path)
	if err != nil || len(doc) != 100000 || doc[99999].Parent != 99998 {
		t.Fatal(err)
	}
	if out, at, err := plant.Drop(doc, 99999, 0); err != nil || at != 0 || len(out) != 99999 {
		t.Error(at, err)
	}
	long := []node{el(-1, strings.Repeat("a", 1<<20))}
	if out, at, err := plant.Thin(long, 0, needs(1)); err != nil || at != 0 || !dom.Same(out, long) {
		t.Error(err)
	}
}
