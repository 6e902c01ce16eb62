package sheet

import (
	"errors"
	"slices"

	"wattle/api"
	"wattle/blocks"
	"wattle/parse"
)

// reader reads the styles and the conditions of a style sheet.
type reader struct {
	list   []api.Token
	spaces *spaces
	conds  map[string]int // the number of each condition, by its text
	out    api.Sheet
}

// scope is what rules stand in: how many conditions in one another, and the numbers of these, each once.
type scope struct {
	deep  int
	conds []int
}

func newReader(list []api.Token, s *spaces) *reader {
	return &reader{list: list, spaces: s, conds: map[string]int{}, out: api.Sheet{Names: s.names}}
}

// rules reads rules that stand in a scope.
func (r *reader) rules(some []api.Rule, in scope) error {
	for _, rule := range some {
		var err error
		if !rule.At {
			err = r.style(rule, in)
		} else if rule.HasBlock && (rule.Name == "media" || rule.Name == "supports") {
			err = r.condition(rule, in)
		}
		if err != nil {
			return err
		}
	}
	return nil
}

// condition reads a condition, and the rules within it.
func (r *reader) condition(rule api.Rule, in scope) error {
	in = in.within(r.number(rule.Name + " " + Text(r.list, rule.From, rule.To)))
	if in.deep > api.MaxNest {
		return nil
	}
	return r.rules(blocks.Rules(r.list, rule.Open, rule.End, false), in)
}

// number gives the number of the condition of a text.
func (r *reader) number(text string) int {
	n, ok := r.conds[text]
	if !ok {
		n = len(r.out.Conds)
		r.conds[text] = n
		r.out.Conds = append(r.out.Conds, text)
	}
	return n
}

// within gives the scope within a further condition. The list isn't grown where it stands, since others have it as well.
func (s scope) within(n int) scope {
	s.deep++
	if !slices.Contains(s.conds, n) {
		s.conds = append(slices.Clip(s.conds), n)
	}
	return s
}

// style reads a style.
func (r *reader) style(rule api.Rule, in scope) error {
	if len(r.out.Styles) == api.MaxStyles {
		return api.Fail(api.ErrOver, 0)
	}
	out := api.Style{Place: r.list[rule.From].From, Conds: slices.Clone(in.conds)}
	head := r.list[rule.From:rule.To]
	list, err := parse.Tokens(head, r.spaces.of(head))
	var fault *api.Fault
	if errors.As(err, &fault) {
		out.Err = int(fault.Kind)
	} else {
		out.List, out.Decls = list, r.decls(rule)
	}
	r.out.Styles = append(r.out.Styles, out)
	return nil
}

// decls reads the declarations of a rule's block.
func (r *reader) decls(rule api.Rule) []api.Value {
	var out []api.Value
	for _, d := range blocks.Decls(r.list, rule.Open, rule.End) {
		out = append(out, api.Value{Name: d.Name, Text: Text(r.list, d.From, d.To), Important: d.Important})
	}
	return out
}
