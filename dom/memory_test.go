package dom_test

import (
	"cmp"
	"math"
	"runtime"
	"slices"
	"testing"
	"unsafe"

	"wattle/api"
	"wattle/dom"
)

func overwrite[T any](list []T, x T) {
	list = list[:cap(list)]
	for i := range list {
		list[i] = x
	}
}

// written gives a document, all of whose lists have spare room with other things in it, and all of whose texts are of the bytes.
func written() (doc []node, bytes []byte) {
	bytes = []byte("hover")
	s := unsafe.String(&bytes[0], len(bytes))
	attrs := []api.Attr{{Space: s, Name: s, Value: s}, {Name: s, Value: s}, {Name: "spare"}}
	names := []string{s, "focus", "spare"}
	doc = []node{{Parent: -1, Kind: api.NodeElement, Space: s, Name: s, Attrs: attrs[:2], States: names[:2]}, text(0, s), comment(0, s), {Parent: 0, Kind: api.NodeElement, Name: s, Attrs: attrs[2:2], States: names[2:2]}, in(el(0, "spare"), "spare")}
	return doc[:4], bytes
}

// plain is the document that written gives, of other memory.
func plain() []node {
	return []node{{Parent: -1, Kind: api.NodeElement, Space: "hover", Name: "hover", Attrs: []api.Attr{{Space: "hover", Name: "hover", Value: "hover"}, {Name: "hover", Value: "hover"}}, States: []string{"hover", "focus"}}, text(0, "hover"), comment(0, "hover"), el(0, "hover")}
}

// P11.4: what is handed in stays, with its spare room; a tree stays when it is written over.
func TestArgumentsStay(t *testing.T) {
	doc, bytes := written()
	if err := dom.Check(doc); err != nil || !dom.Same(doc, plain()) {
		t.Fatal(err)
	}
	d := tree(t, doc)
	if !dom.Same(doc, plain()) || doc[:5][4].Name != "spare" || doc[0].Attrs[:3][2].Name != "spare" || doc[0].States[:3][2] != "spare" {
		t.Error("an argument was changed")
	}
	for _, n := range doc {
		overwrite(n.Attrs, api.Attr{Name: "#"})
		overwrite(n.States, "#")
	}
	overwrite(doc, node{Parent: -1, Kind: 99})
	overwrite(bytes, '#')
	checkKept(t, d)
	runtime.KeepAlive(bytes)
}

// checkKept tells whether a tree is still that of the plain document.
func checkKept(t *testing.T, d *dom.Tree) {
	t.Helper()
	for n, want := range plain() {
		if got, ok := d.Node(n); !ok || !dom.Same([]node{got}, []node{want}) {
			t.Errorf("%d: %v", n, got)
		}
	}
	v, ok := d.Value(0, "", "hover")
	if v != "hover" || !ok || !d.State(0, "focus") || !slices.Equal(d.Elements(), []int{0, 3}) || !slices.Equal(d.Row(3), []int{3}) || tell(d.Parent(3)) != (found{0, true}) {
		t.Errorf("%q, %v", v, d.Elements())
	}
}

// P11.4: a tree stays when its answers are written over.
func TestAnswersAreNew(t *testing.T) {
	doc, _ := written()
	d := tree(t, doc)
	for range 2 {
		for n := range doc {
			node, _ := d.Node(n)
			overwrite(node.Attrs, api.Attr{Name: "#"})
			overwrite(node.States, "#")
			overwrite(d.Row(n), -7)
		}
		overwrite(d.Elements(), -7)
		checkKept(t, d)
	}
}

// room is where a list stands, with its spare room.
type room struct{ from, to uintptr }

func roomOf[T any](list []T) room {
	from := uintptr(unsafe.Pointer(unsafe.SliceData(list)))
	return room{from, from + uintptr(cap(list))*unsafe.Sizeof(*new(T))}
}

// P11.4: no two lists of answers share memory, nor does one with the argument's.
func TestListsAreApart(t *testing.T) {
	doc := plain()
	doc[1].Attrs, doc[3].Attrs, doc[3].States = make([]api.Attr, 0, 2), make([]api.Attr, 0, 2), make([]string, 0, 2)
	d := tree(t, doc)
	all, kept := []room{roomOf(doc)}, []any{doc}
	for n := range doc {
		all = append(all, roomOf(doc[n].Attrs), roomOf(doc[n].States))
		for range 2 {
			node, _ := d.Node(n)
			row, elements := d.Row(n), d.Elements()
			kept = append(kept, node, row, elements)
			all = append(all, roomOf(node.Attrs), roomOf(node.States), roomOf(row), roomOf(elements))
		}
	}
	all = slices.DeleteFunc(all, func(r room) bool { return r.from == r.to })
	slices.SortFunc(all, func(a, b room) int { return cmp.Compare(a.from, b.from) })
	for i := 1; i < len(all); i++ {
		if all[i].from < all[i-1].to {
			t.Errorf("%d: two lists share memory", i)
		}
	}
	runtime.KeepAlive(kept) // what nobody has any more may give its place to others
}

// P1: documents of any numbers and texts: each call ends, and none panics.
func TestWildDocuments(t *testing.T) {
	numbers := []int{-1, 0, 1, 2, 3, 4, -2, math.MinInt, math.MaxInt, 1 << 32}
	for seed := range uint32(20000) {
		m := maker{seed}
		number := func() int { return numbers[m.pick(len(numbers))] }
		some := func() string { return m.text("", "a", "\x00", "\xff", "hover", "x") }
		var doc []node
		for range m.pick(5) {
			n := node{Parent: number(), Kind: number(), Space: some(), Name: some(), Text: some()}
			for range m.pick(3) {
				n.Attrs, n.States = append(n.Attrs, api.Attr{Space: some(), Name: some(), Value: some()}), append(n.States, some())
			}
			doc = append(doc, n)
		}
		err := dom.Check(doc)
		if d, err2 := dom.New(doc); (err == nil) != (err2 == nil) || (d == nil) == (err2 == nil) {
			t.Errorf("%v: %v, %v", doc, err, err2)
		}
		if !dom.Same(doc, doc) || dom.Same(doc, append(doc, node{})) {
			t.Errorf("%v", doc)
		}
	}
}

// P2: what is asked again is answered again, also by a tree that is asked at once by many.
func TestAskedAgain(t *testing.T) {
	d := tree(t, plain())
	done := make(chan bool)
	for range 4 {
		go func() {
			defer func() { done <- true }()
			for range 100 {
				checkKept(t, d)
			}
		}()
	}
	for range 4 {
		<-done
	}
}
