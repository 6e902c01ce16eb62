package ask_test

import (
	"testing"

	"wattle/api"
	"wattle/dom"
	"wattle/plant"
)

// paths goes through all paths of so many elements of some kinds, as documents.
func paths(t *testing.T, many int, look func(doc []api.Node) bool) {
	t.Helper()
	var path []api.Move
	var more func() bool
	more = func() bool {
		if len(path) == many {
			doc, err := plant.Doc(path)
			if err != nil {
				t.Fatal(path, err)
			}
			return look(doc)
		}
		for _, n := range kinds() {
			for _, down := range []bool{false, true} {
				if down != (len(path) == 1) && len(path) < 2 {
					continue
				}
				path = append(path, api.Move{Down: down, Node: n})
				ok := more()
				path = path[:len(path)-1]
				if !ok {
					return false
				}
			}
		}
		return true
	}
	more()
}

// least gives by layer 12 how many elements the least path to a witness in a way has; 0, if none has up to so many.
func (q question) least(t *testing.T, way, upTo int) (out int) {
	t.Helper()
	for many := 1; many <= upTo && out == 0; many++ {
		paths(t, many, func(doc []api.Node) bool {
			tree, err := dom.New(doc)
			if err != nil {
				t.Fatal(doc, err)
			}
			if q.wanted(tree, way, many-1) {
				out = many
			}
			return out == 0
		})
	}
	return out
}

// long is up to how many elements paths are gone through one by one.
const long = 3

// P18.1, P18.2, P18.5: many lists, held against all small paths: no witness has more elements than the least path to one, and where there is none there is no witness; of Equivalent, in the way that is told.
func TestByTheWords(t *testing.T) {
	found := map[int]int{}
	for seed := range uint32(500) {
		m := &maker{seed: seed}
		a, b, names := m.two()
		for _, q := range questions(a, b, names) {
			v := q.get(t)
			for way := range q.is {
				is, upTo := v.Kind == q.yes && q.way(v) == way, long
				if is {
					upTo = min(long, len(v.Doc))
				}
				least := q.least(t, way, upTo)
				switch {
				case is && least != len(v.Doc) && (least > 0 || len(v.Doc) <= long):
					t.Fatalf("%d: %+v, %+v: %+v, not of %d elements", seed, a, b, v, least)
				case !is && least > 0 && (v.Kind != q.yes || v.Way == api.WayBack):
					t.Fatalf("%d: %+v, %+v: %+v, but there is a witness of %d in the way %d", seed, a, b, v, least, way)
				}
			}
			found[len(v.Doc)]++
		}
	}
	for many, least := range []int{350, 600, 200, 150, 50, 7} {
		if found[many] < least {
			t.Errorf("just %d have %d elements", found[many], many)
		}
	}
}

// P18.1, P18.2, P18.5: many lists that ask for more, and many documents: where there is no witness, there is none in any of these, and where there is one, none that stands at the end of fewer elements.
func TestInDocuments(t *testing.T) {
	none, some := 0, 0
	for seed := range uint32(500) {
		m := &maker{seed: seed, rich: true}
		a, b, names := m.two()
		for _, q := range questions(a, b, names) {
			if !isSmall(q) {
				continue
			}
			v := q.get(t)
			if v.Kind == q.yes {
				some++
			} else {
				none++
			}
			for range 4 {
				doc := m.doc(1 + m.pick(12))
				tree, err := dom.New(doc)
				if err != nil {
					t.Fatal(doc, err)
				}
				for _, n := range tree.Elements() {
					for way := range q.is {
						is := q.wanted(tree, way, n)
						if is && v.Kind != q.yes || is && way < q.way(v) || is && way == q.way(v) && pathTo(tree, n) < len(v.Doc) {
							t.Fatalf("%d: %+v, %+v: %+v, but %+v, %d", seed, a, b, v, doc, n)
						}
					}
				}
			}
		}
	}
	if none < 200 || some < 1200 {
		t.Errorf("%d without a witness, %d with one", none, some)
	}
}

// pathTo gives how many elements the path to an element has.
func pathTo(tree *dom.Tree, n int) (many int) {
	for ok := true; ok; n, ok = tree.Parent(n) {
		many += len(tree.Row(n))
	}
	return many
}
