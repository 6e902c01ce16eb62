package sheet_test

import (
	"testing"

	"wattle/api"
	"wattle/parse"
	"wattle/sheet"
)

// whole is a style sheet that has all that one may have, in new memory each time.
func whole() api.Sheet {
	list := func(s string) []api.Complex {
		out, err := parse.Selectors([]byte(s), api.Names{Prefixes: []string{"p"}, Spaces: []string{"u"}})
		if err != nil {
			panic(err)
		}
		return out
	}
	return api.Sheet{
		Names: api.Names{HasDefault: true, Default: "d", Prefixes: []string{"p", "q"}, Spaces: []string{"u", "v"}},
		Conds: []string{"media x", "supports y"},
		Styles: []api.Style{
			{Place: 1, List: list("a.b > c, :is(p|d)"), Conds: []int{0, 1}, Decls: []api.Value{{Name: "e", Text: "f"}, {Name: "g", Text: "h", Important: true}}},
			{Place: 2, Err: 10},
			{Place: 3, List: list("a")},
		},
	}
}

// P20.2: style sheets that are one in all that they have, and those that differ in one thing.
func TestSame(t *testing.T) {
	none := api.Sheet{Names: api.Names{Prefixes: []string{}, Spaces: []string{}}, Conds: []string{}, Styles: []api.Style{}}
	bare := api.Sheet{Styles: []api.Style{{}}}
	full := api.Sheet{Styles: []api.Style{{List: []api.Complex{}, Conds: []int{}, Decls: []api.Value{}}}}
	for i, x := range []struct {
		a, b api.Sheet
		want bool
	}{
		{whole(), whole(), true}, {api.Sheet{}, none, true}, {none, api.Sheet{}, true}, {bare, full, true}, {full, bare, true}, {bare, api.Sheet{}, false}, {whole(), none, false}, {none, whole(), false},
	} {
		if got := sheet.Same(x.a, x.b); got != x.want {
			t.Errorf("%d: %t", i, got)
		}
	}
	for i, change := range []func(s *api.Sheet){
		func(s *api.Sheet) { s.Names.HasDefault = false },
		func(s *api.Sheet) { s.Names.Default = "D" },
		func(s *api.Sheet) { s.Names.Default = "" },
		func(s *api.Sheet) { s.Names.Prefixes[1] = "p" },
		func(s *api.Sheet) { s.Names.Prefixes = s.Names.Prefixes[:1] },
		func(s *api.Sheet) { s.Names.Prefixes = nil },
		func(s *api.Sheet) { s.Names.Spaces[0] = "v" },
		func(s *api.Sheet) { s.Names.Spaces = append(s.Names.Spaces, "") },
		func(s *api.Sheet) {
			s.Names.Prefixes, s.Names.Spaces = []string{"q", "p"}, []string{"v", "u"}
		},
		func(s *api.Sheet) { s.Conds[0] = "media X" },
		func(s *api.Sheet) { s.Conds = s.Conds[1:] },
		func(s *api.Sheet) { s.Conds = append(s.Conds, "") },
		func(s *api.Sheet) { s.Conds[0], s.Conds[1] = s.Conds[1], s.Conds[0] },
		func(s *api.Sheet) { s.Styles = s.Styles[:2] },
		func(s *api.Sheet) { s.Styles = append(s.Styles, api.Style{}) },
		func(s *api.Sheet) { s.Styles[1], s.Styles[2] = s.Styles[2], s.Styles[1] },
		func(s *api.Sheet) { s.Styles[0].Place = 0 },
		func(s *api.Sheet) { s.Styles[1].Err = 20 },
		func(s *api.Sheet) { s.Styles[2].Err = 1 },
		func(s *api.Sheet) { s.Styles[0].List = s.Styles[0].List[:1] },
		func(s *api.Sheet) { s.Styles[0].List[0].List[1].Comb = api.CombBelow },
		func(s *api.Sheet) { s.Styles[0].List[1].List[0].List[0].Of[0].List[0].List[0].Prefix = "q" },
		func(s *api.Sheet) { s.Styles[2].List = nil },
		func(s *api.Sheet) { s.Styles[0].Conds[1] = 0 },
		func(s *api.Sheet) { s.Styles[0].Conds = s.Styles[0].Conds[:1] },
		func(s *api.Sheet) { s.Styles[2].Conds = []int{0} },
		func(s *api.Sheet) { s.Styles[0].Decls[0].Name = "E" },
		func(s *api.Sheet) { s.Styles[0].Decls[0].Text = "" },
		func(s *api.Sheet) { s.Styles[0].Decls[1].Important = false },
		func(s *api.Sheet) { s.Styles[0].Decls = s.Styles[0].Decls[1:] },
		func(s *api.Sheet) { s.Styles[1].Decls = []api.Value{{}} },
	} {
		other := whole()
		change(&other)
		if sheet.Same(whole(), other) || sheet.Same(other, whole()) || !sheet.Same(other, other) {
			t.Errorf("%d: %v", i, other)
		}
	}
}
