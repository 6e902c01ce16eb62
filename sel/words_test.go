package sel_test

import (
	"errors"
	"slices"
	"unicode/utf8"

	"wattle/api"
)

type simple = api.Simple

// of is a selector of one compound.
func of(list ...simple) api.Complex { return api.Complex{List: []api.Compound{{List: list}}} }

// row is a selector of compounds beneath one another, of one simple selector each.
func row(list ...simple) api.Complex {
	var out api.Complex
	for i, s := range list {
		out.List = append(out.List, api.Compound{Comb: min(i, api.CombBelow), List: []simple{s}})
	}
	return out
}

// list is selectors of one simple selector each.
func list(some ...simple) []api.Complex {
	var out []api.Complex
	for _, s := range some {
		out = append(out, of(s))
	}
	return out
}

func typ(name string) simple    { return simple{Kind: api.SelType, Name: name} }
func class(name string) simple  { return simple{Kind: api.SelClass, Name: name} }
func id(name string) simple     { return simple{Kind: api.SelID, Name: name} }
func pseudo(name string) simple { return simple{Kind: api.SelPseudo, Name: name} }
func state(name string) simple  { return simple{Kind: api.SelState, Name: name} }
func has(name string) simple {
	return simple{Kind: api.SelAttr, Name: name, Cond: api.Cond{Op: api.OpHas}}
}
func attr(op int, text string, mark int) simple {
	return simple{Kind: api.SelAttr, Name: "t", Cond: api.Cond{Op: op, Text: text, Fold: mark == api.MarkFold}, Mark: mark}
}
func nth(a, b int, some ...api.Complex) simple {
	return simple{Kind: api.SelNth, AB: api.AB{A: a, B: b}, Of: some}
}
func within(kind int, some ...api.Complex) simple { return simple{Kind: kind, Of: some} }

// nested stands as many times within another selector of a kind; so it is one deeper than that.
func nested(kind, times int, inner ...api.Complex) []api.Complex {
	for range times {
		inner = []api.Complex{of(within(kind, inner...))}
	}
	return inner
}

// isFault tells whether an error is of a kind at 0, by itself; of the kind 0, whether it is none.
func isFault(err error, kind api.Errno) bool {
	var f *api.Fault
	if kind == 0 {
		return err == nil
	}
	return errors.As(err, &f) && err == error(f) && f.Kind == kind && f.At == 0 && f.Inner == nil
}

// fields tells what each Kind has, by the chapter's words; of? may be empty.
var fields = map[int][]string{
	api.SelType: {"ns", "name"}, api.SelAny: {"ns"}, api.SelClass: {"name"}, api.SelID: {"name"}, api.SelAttr: {"ns", "name", "cond"}, api.SelRoot: {}, api.SelNth: {"ab", "of?"}, api.SelIs: {"of"}, api.SelWhere: {"of"}, api.SelNot: {"of"}, api.SelState: {"state"}, api.SelLink: {}, api.SelPseudo: {"pseudo"},
}

var (
	states  = []string{"hover", "active", "focus", "focus-visible", "visited", "link", "checked", "disabled", "enabled", "target"}
	pseudos = []string{"before", "after", "first-line", "first-letter", "marker", "selection", "placeholder", "backdrop"}
)

func rightText(s string) bool {
	return utf8.ValidString(s) && !slices.Contains([]byte(s), 0)
}

// rightByWords tells by the chapter's words whether a list is right, where prefixes are those that there are.
func rightByWords(some []api.Complex, prefixes []string, inner bool) bool {
	right := len(some) > 0
	for _, c := range some {
		right = right && len(c.List) > 0
		for i, part := range c.List {
			right = right && len(part.List) > 0
			if i == 0 {
				right = right && part.Comb == api.CombFirst
			} else {
				right = right && slices.Contains([]int{api.CombBelow, api.CombChild, api.CombNext, api.CombLater}, part.Comb)
			}
			for k, s := range part.List {
				first, last := k == 0, i == len(c.List)-1 && k == len(part.List)-1
				right = right && rightSimpleByWords(s, prefixes)
				if s.Kind == api.SelType || s.Kind == api.SelAny {
					right = right && first
				}
				if s.Kind == api.SelPseudo {
					right = right && last && !inner
				}
			}
		}
	}
	return right
}

func rightSimpleByWords(s simple, prefixes []string) bool {
	what, right := fields[s.Kind]
	has := func(name string) bool { return slices.Contains(what, name) }
	if has("ns") {
		right = right && slices.Contains([]int{api.NSNone, api.NSAny, api.NSEmpty, api.NSNamed}, s.NS)
	} else {
		right = right && s.NS == 0
	}
	if has("ns") && s.NS == api.NSNamed {
		right = right && slices.Contains(prefixes, s.Prefix)
	} else {
		right = right && s.Prefix == ""
	}
	switch {
	case has("name"):
		right = right && s.Name != "" && rightText(s.Name)
	case has("state"):
		right = right && slices.Contains(states, s.Name)
	case has("pseudo"):
		right = right && slices.Contains(pseudos, s.Name)
	default:
		right = right && s.Name == ""
	}
	if has("cond") {
		right = right && s.Cond.Op >= 1 && s.Cond.Op <= 7 && rightText(s.Cond.Text) && s.Mark >= 0 && s.Mark <= 2 && (s.Cond.Fold == (s.Mark == api.MarkFold))
		if s.Cond.Op == api.OpHas {
			right = right && s.Cond.Text == "" && s.Mark == api.MarkNone
		}
	} else {
		right = right && s.Cond == api.Cond{} && s.Mark == 0
	}
	if has("ab") {
		right = right && s.AB.A <= 1000000 && s.AB.A >= -1000000 && s.AB.B <= 1000000 && s.AB.B >= -1000000
	} else {
		right = right && s.AB == api.AB{}
	}
	if has("of") || has("of?") && len(s.Of) > 0 {
		return right && rightByWords(s.Of, prefixes, true)
	}
	return right && len(s.Of) == 0
}
