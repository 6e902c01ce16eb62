package plant_test

import (
	"cmp"
	"math"
	"runtime"
	"slices"
	"testing"
	"unsafe"

	"wattle/api"
	"wattle/dom"
	"wattle/plant"
)

func overwrite[T any](list []T, x T) {
	list = list[:cap(list)]
	for i := range list {
		list[i] = x
	}
}

// written gives a document and a path, all of whose lists have spare room with other things in it, and all of whose texts are of the bytes.
func written() (doc []node, path []api.Move, bytes []byte) {
	bytes = []byte("hover")
	s := unsafe.String(&bytes[0], len(bytes))
	element := func(parent int) node {
		attrs := []api.Attr{{Space: s, Name: s, Value: s}, {Name: s, Value: s}, {Name: "spare"}}
		states := []string{s, "focus", "spare"}
		return node{Parent: parent, Kind: api.NodeElement, Space: s, Name: s, Attrs: attrs[:2], States: states[:2]}
	}
	doc = []node{{Parent: -1, Kind: api.NodeComment, Text: s}, element(-1), {Parent: 1, Kind: api.NodeText, Text: s}, element(1), element(3), el(7, "spare")}
	path = []api.Move{{Node: element(5)}, {Down: true, Node: element(-1)}, {Node: element(0)}, {Down: true, Node: el(9, "spare")}}
	return doc[:5], path[:3], bytes
}

// fresh gives what written gives, of other memory.
func fresh() ([]node, []api.Move) {
	doc, path, _ := written()
	return doc, path
}

// isUntouched tells whether a document and a path are still those that written gives, with their spare rooms.
func isUntouched(doc []node, path []api.Move) bool {
	want, wantPath := fresh()
	ok := dom.Same(doc, want) && doc[:6][5].Name == "spare" && len(path) == 3 && path[:4][3].Node.Name == "spare"
	for i, m := range path {
		ok = ok && m.Down == wantPath[i].Down && dom.Same([]node{m.Node}, []node{wantPath[i].Node}) && isSpare(m.Node)
	}
	return ok && isSpare(doc[1]) && isSpare(doc[3]) && isSpare(doc[4])
}

func isSpare(n node) bool { return n.Attrs[:3][2].Name == "spare" && n.States[:3][2] == "spare" }

// answers gives all that is answered of a document and of a path, and what tests were asked of.
func answers(t *testing.T, doc []node, path []api.Move) (out [][]node) {
	t.Helper()
	planted, err := plant.Doc(path)
	dropped, n, err2 := plant.Drop(doc, 2, 3)
	less, at, err3 := plant.Thin(doc, 3, func(doc []node, n int) bool {
		return len(doc[n].Attrs) == 2 && slices.Contains(doc[n].States, "focus")
	})
	all, last, err4 := plant.Thin(doc, 4, func(now []node, n int) bool { return plant.Size(now) == plant.Size(doc) })
	if err != nil || err2 != nil || err3 != nil || err4 != nil || n != 2 || at != 1 || last != 4 {
		t.Fatal(err, err2, err3, err4, n, at, last)
	}
	return [][]node{planted, dropped, less, all}
}

// P17.4: what is handed in stays, with its spare rooms; answers stay when all of that is written over.
func TestArgumentsStay(t *testing.T) {
	doc, path, bytes := written()
	got := answers(t, doc, path)
	if !isUntouched(doc, path) || string(bytes) != "hover" {
		t.Error("an argument was changed")
	}
	freshDoc, freshPath := fresh()
	want := answers(t, freshDoc, freshPath)
	for _, n := range doc {
		overwrite(n.Attrs, api.Attr{Name: "#"})
		overwrite(n.States, "#")
	}
	for _, m := range path {
		overwrite(m.Node.Attrs, api.Attr{Name: "#"})
		overwrite(m.Node.States, "#")
	}
	overwrite(doc, node{Parent: 7})
	overwrite(path, api.Move{})
	overwrite(bytes, '#')
	if !slices.EqualFunc(got, want, dom.Same) {
		t.Errorf("an argument is kept: %+v, not %+v", got, want)
	}
	runtime.KeepAlive(bytes)
}

// room is where a list stands, with its spare room.
type room struct{ from, to uintptr }

func roomOf[T any](list []T) room {
	from := uintptr(unsafe.Pointer(unsafe.SliceData(list)))
	return room{from, from + uintptr(cap(list))*unsafe.Sizeof(*new(T))}
}

func roomsOf(doc []node) []room {
	out := []room{roomOf(doc)}
	for _, n := range doc {
		out = append(out, roomOf(n.Attrs), roomOf(n.States))
	}
	return out
}

// P17.4: no two lists of answers share memory, nor does one with an argument's, nor with what a test was asked of.
func TestListsAreApart(t *testing.T) {
	doc, path, _ := written()
	var last []node
	thin, _, err := plant.Thin(doc, 3, func(doc []node, n int) bool {
		if len(doc[n].States) < 2 {
			return false
		}
		last = doc
		return true
	})
	if err != nil || !dom.Same(thin, last) {
		t.Fatal(thin, last, err)
	}
	rooms := append(roomsOf(doc), roomsOf(thin)...)
	for _, m := range path {
		rooms = append(rooms, roomOf(m.Node.Attrs), roomOf(m.Node.States))
	}
	kept := []any{doc, path, last, thin}
	for range 2 {
		for _, out := range answers(t, doc, path) {
			rooms, kept = append(rooms, roomsOf(out)...), append(kept, out)
		}
	}
	rooms = append(rooms, roomsOf(last)...)
	rooms = slices.DeleteFunc(rooms, func(r room) bool { return r.from == r.to })
	slices.SortFunc(rooms, func(a, b room) int { return cmp.Compare(a.from, b.from) })
	for i := 1; i < len(rooms); i++ {
		if rooms[i].from < rooms[i-1].to {
			t.Fatal("two lists share memory")
		}
	}
	runtime.KeepAlive(kept) // what nobody has any more may give its place to others
}

// P1, P2: documents, paths and places of any numbers and texts: each call ends, none panics, and twice it answers the same.
func TestWild(t *testing.T) {
	for seed := range uint32(30000) {
		m := &maker{seed}
		number := func() int { return one(m, 0, 1, 2, 0, 1, 2, -1, 3, math.MinInt, math.MaxInt) }
		wild := func() node {
			if m.pick(4) > 0 {
				return m.element(one(m, -1, 0, 0, 1), one(m, "a", "b"))
			}
			return node{Parent: number(), Kind: one(m, 1, 1, 2, 3, number()), Name: one(m, "", "a", "\xff"), Text: one(m, "", "t")}
		}
		var doc []node
		var path []api.Move
		for range m.pick(5) {
			doc, path = append(doc, wild()), append(path, api.Move{Down: m.pick(2) == 0, Node: wild()})
		}
		if m.pick(2) == 0 {
			doc, _ = m.doc(1 + m.pick(5))
		}
		n, other, needed := number(), number(), m.pick(4)
		test := func(doc []node, n int) bool { return plant.Size(doc)%4 >= needed }
		planted, err := plant.Doc(path)
		planted2, err2 := plant.Doc(path)
		dropped, at, err3 := plant.Drop(doc, n, other)
		dropped2, at2, err4 := plant.Drop(doc, n, other)
		thin, place, err5 := plant.Thin(doc, n, test)
		thin2, place2, err6 := plant.Thin(doc, n, test)
		if !dom.Same(planted, planted2) || !dom.Same(dropped, dropped2) || !dom.Same(thin, thin2) || at != at2 || place != place2 || (err == nil) != (err2 == nil) || (err3 == nil) != (err4 == nil) || (err5 == nil) != (err6 == nil) {
			t.Fatalf("%+v, %+v: two answers", doc, path)
		}
		if (err == nil) != right(planted) || (err3 == nil) != right(dropped) || (err5 == nil) != right(thin) || plant.Size(doc) < len(doc) {
			t.Fatalf("%+v, %+v: %v, %v, %v", doc, path, err, err3, err5)
		}
	}
}

// P2: what is asked at once by many is answered the same.
func TestAskedAtOnce(t *testing.T) {
	doc, path := fresh()
	want := answers(t, doc, path)
	done := make(chan bool)
	for range 4 {
		go func() {
			defer func() { done <- true }()
			for range 50 {
				if got := answers(t, doc, path); !slices.EqualFunc(got, want, dom.Same) {
					t.Errorf("%+v, not %+v", got, want)
				}
			}
		}()
	}
	for range 4 {
		<-done
	}
}
