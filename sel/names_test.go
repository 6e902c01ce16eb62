package sel_test

import (
	"strconv"
	"strings"
	"testing"

	"wattle/api"
	"wattle/sel"
)

// P8.1: right namespaces, and what makes them wrong; Check tells the same, whatever the list.
func TestCheckNames(t *testing.T) {
	many := api.Names{}
	for i := range 20000 {
		many.Prefixes, many.Spaces = append(many.Prefixes, "p"+strconv.Itoa(i)), append(many.Spaces, "u")
	}
	twice := api.Names{Prefixes: append([]string{"p19999"}, many.Prefixes...), Spaces: append([]string{""}, many.Spaces...)}
	for i, x := range []struct {
		names api.Names
		right bool
	}{
		{api.Names{}, true}, {api.Names{Prefixes: []string{}, Spaces: []string{}}, true}, {api.Names{HasDefault: true}, true}, {api.Names{HasDefault: true, Default: "u"}, true}, {api.Names{Default: "u"}, true}, {api.Names{Prefixes: []string{"p"}, Spaces: []string{"u"}}, true}, {api.Names{Prefixes: []string{"p"}, Spaces: []string{""}}, true}, {api.Names{Prefixes: []string{"p", "P", "q"}, Spaces: []string{"u", "u", "u"}}, true}, {many, true},
		{api.Names{HasDefault: true, Default: "é €\U0001f600\ufeff\n", Prefixes: []string{"\ufeff", "1 -*|", "é", "\x01"}, Spaces: []string{" ", "\ufffd", "\x7f", "\r"}}, true},
		// As many Spaces as Prefixes.
		{api.Names{Prefixes: []string{"p"}}, false}, {api.Names{Spaces: []string{"u"}}, false}, {api.Names{Prefixes: []string{"p", "q"}, Spaces: []string{"u"}}, false}, {api.Names{Prefixes: []string{"p"}, Spaces: []string{"u", "v"}}, false}, {api.Names{Spaces: []string{""}}, false},
		// Prefixes are names.
		{api.Names{Prefixes: []string{""}, Spaces: []string{"u"}}, false}, {api.Names{Prefixes: []string{"p", ""}, Spaces: []string{"u", "v"}}, false}, {api.Names{Prefixes: []string{"p\x00"}, Spaces: []string{"u"}}, false}, {api.Names{Prefixes: []string{"p", "\xff"}, Spaces: []string{"u", "v"}}, false}, {api.Names{Prefixes: []string{"\xed\xa0\x80"}, Spaces: []string{"u"}}, false}, {api.Names{Prefixes: []string{"p\xe2\x82"}, Spaces: []string{"u"}}, false},
		// None is there twice.
		{api.Names{Prefixes: []string{"p", "p"}, Spaces: []string{"u", "v"}}, false}, {api.Names{Prefixes: []string{"p", "p"}, Spaces: []string{"u", "u"}}, false}, {api.Names{Prefixes: []string{"p", "q", "p"}, Spaces: []string{"u", "v", "w"}}, false}, {twice, false},
		// Spaces, and the default, are right values.
		{api.Names{Prefixes: []string{"p"}, Spaces: []string{"\x00"}}, false}, {api.Names{Prefixes: []string{"p", "q"}, Spaces: []string{"u", "v\xc0\x80"}}, false}, {api.Names{Prefixes: []string{"p", "q"}, Spaces: []string{"\xff", "v"}}, false}, {api.Names{HasDefault: true, Default: "\xff"}, false}, {api.Names{HasDefault: true, Default: "a\x00"}, false}, {api.Names{Default: "\xff"}, false}, {api.Names{Default: "\x00", Prefixes: []string{"p"}, Spaces: []string{"u"}}, false},
	} {
		kind := api.ErrName
		if x.right {
			kind = 0
		}
		if err := sel.CheckNames(x.names); !isFault(err, kind) {
			t.Errorf("%d: %v", i, err)
		}
		// P8.2: ahead of any fault of the list.
		for k, some := range [][]api.Complex{list(class("c")), nil, nested(api.SelIs, 32), nested(api.SelIs, 32, of(typ("")))} {
			want := kind
			if x.right {
				want = []api.Errno{0, api.ErrForm, api.ErrForm, api.ErrDeep}[k]
			}
			if err := sel.Check(some, x.names); !isFault(err, want) {
				t.Errorf("%d, %d: %v", i, k, err)
			}
		}
	}
}

// P8.1: the first of the prefixes that is it, also where there are no right namespaces.
func TestSpace(t *testing.T) {
	names := api.Names{HasDefault: true, Default: "d", Prefixes: []string{"p", "q", "", "p", "é", "r", "\xff", "r"}, Spaces: []string{"u", "v", "w", "x", "", "y"}}
	for _, x := range []struct {
		prefix, space string
		ok            bool
	}{
		{"p", "u", true}, {"q", "v", true}, {"", "w", true}, {"é", "", true}, {"r", "y", true}, {"\xff", "", true}, {"P", "", false}, {"pq", "", false}, {"u", "", false}, {"e", "", false}, {"\xfe", "", false}, {"*", "", false},
	} {
		if space, ok := sel.Space(names, x.prefix); space != x.space || ok != x.ok {
			t.Errorf("%q: %q, %t", x.prefix, space, ok)
		}
	}
	for i, x := range []struct {
		names api.Names
		ok    bool
	}{
		{api.Names{}, false}, {api.Names{HasDefault: true, Default: "d"}, false}, {api.Names{Spaces: []string{"u"}}, false}, {api.Names{Prefixes: []string{"p"}}, true}, {api.Names{Prefixes: []string{"q", "p"}, Spaces: []string{"u"}}, true}, {api.Names{Prefixes: []string{"q", "p", "p"}, Spaces: []string{"u"}[:0]}, true},
	} {
		if space, ok := sel.Space(x.names, "p"); space != "" || ok != x.ok {
			t.Errorf("%d: %q, %t", i, space, ok)
		}
	}
}

// P8.3: just the names told, letter for letter.
func TestStatesAndElements(t *testing.T) {
	for _, name := range append(states, pseudos...) {
		isState := name != "before" && sel.State(name)
		if sel.State(name) == sel.Element(name) || isState != strings.Contains(" "+strings.Join(states, " ")+" ", " "+name+" ") {
			t.Errorf("%s: %t, %t", name, sel.State(name), sel.Element(name))
		}
		for _, other := range []string{strings.ToUpper(name), strings.ToUpper(name[:1]) + name[1:], name + " ", " " + name, ":" + name, "::" + name, name + "-", name[1:], name[:len(name)-1], name + name, name + "\x00"} {
			if sel.State(other) || sel.Element(other) {
				t.Errorf("%q", other)
			}
		}
	}
	for _, name := range []string{"", "root", "any-link", "focus-within", "first-child", "empty", "scope", "default", "required", "is", "cue", "first", "line", "\xff", "hover,active", "before after"} {
		if sel.State(name) || sel.Element(name) {
			t.Errorf("%q", name)
		}
	}
}
