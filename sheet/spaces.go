package sheet

import (
	"slices"

	"wattle/api"
	"wattle/blocks"
)

// spaces is the namespaces of a style sheet, and the place of each prefix among them.
type spaces struct {
	names  api.Names
	places map[string]int
}

// readSpaces reads the namespaces that the rules at the top tell. They stand ahead of all styles, so none of these is read without them.
func readSpaces(list []api.Token, top []api.Rule) *spaces {
	out := &spaces{places: map[string]int{}}
	for _, rule := range top {
		if !standsAhead(rule) {
			break
		}
		if rule.Name == "namespace" && !rule.HasBlock {
			out.read(list, rule.From, rule.To)
		}
	}
	return out
}

// standsAhead tells whether namespaces may stand behind a rule. (Just at-rules have names.)
func standsAhead(rule api.Rule) bool {
	return rule.Name == "charset" || rule.Name == "import" || rule.Name == "namespace"
}

// read reads the namespace that a part of tokens tells, if it is one.
func (s *spaces) read(list []api.Token, from, to int) {
	from, to = blocks.Trim(list, from, to)
	switch {
	case isSpace(list, from, to):
		s.names.HasDefault, s.names.Default = true, list[from].Text
	case from < to && list[from].Kind == api.TokIdent:
		second, _ := blocks.Trim(list, from+1, to)
		if isSpace(list, second, to) {
			s.put(list[from].Text, list[second].Text)
		}
	}
}

// isSpace tells whether a part is one token that a namespace may be.
func isSpace(list []api.Token, from, to int) bool {
	return to == from+1 && (list[from].Kind == api.TokString || list[from].Kind == api.TokURL)
}

// put gives a prefix a namespace, in place of the one that it has.
func (s *spaces) put(prefix, space string) {
	if at, ok := s.places[prefix]; ok {
		s.names.Spaces[at] = space
		return
	}
	s.places[prefix] = len(s.names.Prefixes)
	s.names.Prefixes = append(s.names.Prefixes, prefix)
	s.names.Spaces = append(s.names.Spaces, space)
}

// of gives those of the namespaces whose prefixes are texts of some tokens: no other one changes what is read there, and going through all of them again for each style takes long, if there are many.
func (s *spaces) of(list []api.Token) api.Names {
	var places []int
	for _, t := range list {
		if at, ok := s.places[t.Text]; ok {
			places = append(places, at)
		}
	}
	slices.Sort(places)
	out := api.Names{HasDefault: s.names.HasDefault, Default: s.names.Default}
	for _, at := range slices.Compact(places) {
		out.Prefixes = append(out.Prefixes, s.names.Prefixes[at])
		out.Spaces = append(out.Spaces, s.names.Spaces[at])
	}
	return out
}
