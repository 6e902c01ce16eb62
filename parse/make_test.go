package parse_test

import (
	"errors"

	"wattle/api"
)

type simple = api.Simple

// prefixes are namespaces with two prefixes.
var prefixes = api.Names{Prefixes: []string{"p", "Ö x"}, Spaces: []string{"u", ""}}

// of is a selector of one compound.
func of(list ...simple) api.Complex { return api.Complex{List: []api.Compound{{List: list}}} }

// then puts a compound behind a selector.
func then(c api.Complex, comb int, list ...simple) api.Complex {
	return api.Complex{List: append(c.List[:len(c.List):len(c.List)], api.Compound{Comb: comb, List: list})}
}

func list(some ...api.Complex) []api.Complex { return some }

// in puts a name into a namespace.
func in(way int, prefix string, s simple) simple {
	s.NS, s.Prefix = way, prefix
	return s
}

var star = simple{Kind: api.SelAny}

func typ(name string) simple    { return simple{Kind: api.SelType, Name: name} }
func class(name string) simple  { return simple{Kind: api.SelClass, Name: name} }
func id(name string) simple     { return simple{Kind: api.SelID, Name: name} }
func pseudo(name string) simple { return simple{Kind: api.SelPseudo, Name: name} }
func state(name string) simple  { return simple{Kind: api.SelState, Name: name} }
func has(name string) simple {
	return simple{Kind: api.SelAttr, Name: name, Cond: api.Cond{Op: api.OpHas}}
}
func attr(name string, op int, text string, mark int) simple {
	return simple{Kind: api.SelAttr, Name: name, Cond: api.Cond{Op: op, Text: text, Fold: mark == api.MarkFold}, Mark: mark}
}
func nth(a, b int, some ...api.Complex) simple {
	return simple{Kind: api.SelNth, AB: api.AB{A: a, B: b}, Of: some}
}
func within(kind int, some ...api.Complex) simple { return simple{Kind: kind, Of: some} }

// isFault tells whether an error is, by itself, of a kind at a place; of the kind 0, whether it is none.
func isFault(err error, kind api.Errno, at int) bool {
	var f *api.Fault
	if kind == 0 {
		return err == nil
	}
	return errors.As(err, &f) && err == error(f) && f.Kind == kind && f.At == at && errors.Is(err, kind)
}
