package sheet_test

import (
	"errors"
	"fmt"
	"slices"
	"strings"
	"testing"

	"wattle/api"
	"wattle/blocks"
	"wattle/parse"
	"wattle/sel"
	"wattle/sheet"
)

// The chapter's words, to hold the program against.

// namesByWords gives the namespaces that rules at the top make, each by the tokens behind it that aren't blanks.
func namesByWords(list []api.Token, top []api.Rule) api.Names {
	var out api.Names
	for _, r := range top {
		if !r.At || !slices.Contains([]string{"charset", "import", "namespace"}, r.Name) {
			return out
		}
		if r.Name != "namespace" || r.HasBlock {
			continue
		}
		var solid []api.Token
		for _, t := range list[r.From:r.To] {
			if t.Kind != api.TokSpace {
				solid = append(solid, t)
			}
		}
		isSpace := len(solid) > 0 && slices.Contains([]int{api.TokString, api.TokURL}, solid[len(solid)-1].Kind)
		switch {
		case len(solid) == 1 && isSpace:
			out.HasDefault, out.Default = true, solid[0].Text
		case len(solid) == 2 && isSpace && solid[0].Kind == api.TokIdent:
			at := slices.Index(out.Prefixes, solid[0].Text)
			if at < 0 {
				at = len(out.Prefixes)
				out.Prefixes, out.Spaces = append(out.Prefixes, solid[0].Text), append(out.Spaces, "")
			}
			out.Spaces[at] = solid[1].Text
		}
	}
	return out
}

// within reads rules that stand in conditions, of which all are told, the outermost first.
func within(s *api.Sheet, list []api.Token, rules []api.Rule, conds []int) {
	for _, r := range rules {
		switch {
		case !r.At:
			s.Styles = append(s.Styles, styleByWords(s.Names, list, r, conds))
		case r.HasBlock && (r.Name == "media" || r.Name == "supports"):
			text := r.Name + " " + textByWords(cut(list, r.From, r.To))
			n := slices.Index(s.Conds, text)
			if n < 0 {
				n = len(s.Conds)
				s.Conds = append(s.Conds, text)
			}
			if len(conds) < api.MaxNest {
				within(s, list, blocks.Rules(list, r.Open, r.End, false), append(conds, n))
			}
		}
	}
}

func styleByWords(names api.Names, list []api.Token, r api.Rule, conds []int) api.Style {
	out := api.Style{Place: list[r.From].From}
	for i, n := range conds {
		if !slices.Contains(conds[:i], n) {
			out.Conds = append(out.Conds, n)
		}
	}
	some, err := parse.Tokens(list[r.From:r.To], names)
	if err != nil {
		for _, kind := range []api.Errno{api.ErrOver, api.ErrForm, api.ErrName, api.ErrDeep, api.ErrPrefix, api.ErrUnsupported} {
			if f := new(api.Fault); errors.As(err, &f) && f.Kind == kind {
				out.Err = int(kind)
			}
		}
		return out
	}
	out.List = some
	for _, d := range blocks.Decls(list, r.Open, r.End) {
		out.Decls = append(out.Decls, api.Value{Name: d.Name, Text: textByWords(cut(list, d.From, d.To)), Important: d.Important})
	}
	return out
}

func sheetByWords(in string) api.Sheet {
	list := read(in)
	top := blocks.Rules(list, 0, len(list), true)
	out := api.Sheet{Names: namesByWords(list, top)}
	within(&out, list, top, nil)
	return out
}

// tell tells all that a style sheet has; a list without elements and a nil one are one there.
func tell(s api.Sheet) string { return strings.ReplaceAll(fmt.Sprintf("%#v", s), "(nil)", "{}") }

// sheets makes texts of style sheets from parts that stand in one another.
func sheets(pick func(n int) int) string {
	var out strings.Builder
	some := func(list ...string) { out.WriteString(list[pick(len(list))]) }
	for range pick(5) {
		some("@namespace p 'u';", "@namespace 'd';", "@namespace q url(v);", "@namespace p \"w\";", "@NAMESPACE\\70 'x'", "@import 'x';", "@charset 'x';", "@namespace p{}", "@namespace p q;", " ", "<!--", "@namespace r''")
		some("", "", ";")
	}
	var rules func(deep int)
	rules = func(deep int) {
		for range pick(4) {
			some("", "", "", " ", "/**/", "-->", ";", "}", "@namespace p 'z';")
			switch pick(4) {
			case 0:
				if deep > 0 {
					some("@media", "@media", "@supports", "@MEDIA", "@page", "@media;@media")
					some(" x", " y", " x", "", "(a:b)", " x , y", "/**/x ", "[;")
					out.WriteByte('{')
					rules(deep - 1)
					some("}", "}", "}", "}", "}", "}", "")
				}
			default:
				some("a", "a", "p|a", "q|*", "r|a", "a > b", ".c,#d", ":is(p|a)", ":is(s|a)", ":last-child", "a:b", "", "[p|a]", "[q|a='b']", "a::before", "(", ":nth-child(1000001)")
				some("{", "{", "{", "{", "{", " {", "")
				for range pick(4) {
					some("b", "C", "--D", "e", ":", "@f", "g{}")
					some(":", ":", ":", " : ", "")
					some("1", "x", "a b", "'y'", "f(x;y)", "", "(;", "1e3px /**/ z")
					some("", "", "!important", " ! IMPORTANT ", "!x")
					some(";", ";", ";", "")
				}
				some("}", "}", "}", "}", "}", "}", "")
			}
		}
	}
	rules(4)
	return out.String()
}

// P20.1, P20.2: many style sheets. Names are right by layer 8, and so are the lists; and Same is told of just those that are one.
func TestManySheets(t *testing.T) {
	pick := picker(2)
	var ahead api.Sheet
	for range 40000 {
		in := sheets(pick)
		got, err := sheet.Read([]byte(in))
		want := sheetByWords(in)
		if err != nil || !sheet.Same(got, want) || tell(got) != tell(want) {
			t.Fatalf("%q: %v, %v\nnot %v", in, err, got, want)
		}
		if err := sel.CheckNames(got.Names); err != nil {
			t.Fatalf("%q: %v", in, got.Names)
		}
		for i, x := range got.Styles {
			if !sel.Same(x.List, want.Styles[i].List) || x.Err == 0 && sel.Check(x.List, got.Names) != nil || x.Err != 0 && len(x.List)+len(x.Decls) > 0 {
				t.Fatalf("%q: %v", in, x)
			}
		}
		if same := sheet.Same(got, ahead); same != (tell(got) == tell(ahead)) {
			t.Fatalf("%q: %t", in, same)
		}
		ahead = got
	}
}
