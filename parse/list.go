package parse

import (
	"strings"

	"wattle/api"
	"wattle/sel"
)

// meaning is a sign's text, or a mark's, and the number of what it stands for.
type meaning struct {
	text   string
	number int
}

var combinators = [...]meaning{{">", api.CombChild}, {"+", api.CombNext}, {"~", api.CombLater}}

// selectors reads a list of selectors, and ends where no further one can stand: what must stand there is the caller's to see.
func (r *reader) selectors() ([]api.Complex, error) {
	r.deep++
	defer func() { r.deep-- }()
	var out []api.Complex
	for {
		r.blanks()
		c, err := r.selector()
		if err != nil {
			return nil, err
		}
		out = append(out, c)
		r.blanks()
		if !r.take(api.TokComma) {
			return out, nil
		}
	}
}

// selector reads a selector. Behind a pseudo-element it looks for no combinator, so that what stands there is wrong in the list.
func (r *reader) selector() (api.Complex, error) {
	var out api.Complex
	comb, more := api.CombFirst, true
	for more {
		list, err := r.compound()
		if err != nil {
			return api.Complex{}, err
		}
		out.List = append(out.List, api.Compound{Comb: comb, List: list})
		if sel.Pseudo(out) != "" {
			return out, nil
		}
		comb, more = r.combinator()
	}
	return out, nil
}

// combinator reads a combinator, if one stands there. Blanks that are none are passed over as well.
func (r *reader) combinator() (comb int, ok bool) {
	some := r.blanks()
	for _, m := range combinators {
		if r.takeSign(m.text) {
			r.blanks()
			return m.number, true
		}
	}
	switch r.peek(0).Kind {
	case api.TokComma, api.TokClose, api.TokEnd:
		return 0, false
	}
	return api.CombBelow, some
}

// compound reads a compound, up to what can't be one of its simple selectors.
func (r *reader) compound() ([]api.Simple, error) {
	var out []api.Simple
	s, ok, err := r.elementName()
	if err != nil {
		return nil, err
	}
	if ok {
		out = append(out, s)
	}
	for r.startsSimple() {
		s, err := r.simple(out)
		if err != nil {
			return nil, err
		}
		out = append(out, s)
		if s.Kind == api.SelPseudo {
			break
		}
	}
	if len(out) == 0 {
		return nil, r.wrong()
	}
	return out, nil
}

// elementName reads an element's name, if one stands there.
func (r *reader) elementName() (s api.Simple, ok bool, err error) {
	s, err = r.prefix(false)
	t := r.peek(0)
	switch {
	case err != nil:
		return api.Simple{}, false, err
	case t.Kind == api.TokIdent:
		s.Kind, s.Name = api.SelType, strings.Clone(t.Text)
	case isSign(t, "*"):
		s.Kind = api.SelAny
	default:
		return api.Simple{}, false, nil
	}
	r.next()
	return s, true, nil
}

// prefix reads the prefix of a name, if one stands there. In brackets it is an attribute's, and the | may be an operator's, too.
func (r *reader) prefix(brackets bool) (s api.Simple, err error) {
	first, size := r.peek(0), 0
	if first.Kind == api.TokIdent || isSign(first, "*") {
		size = 1
	}
	bar, behind := r.peek(size), r.peek(size+1)
	switch {
	case !isSign(bar, "|"), brackets && isSign(behind, "="):
		return api.Simple{}, nil
	case behind.Kind != api.TokIdent && (brackets || !isSign(behind, "*")):
		return api.Simple{}, fail(api.ErrForm, bar)
	case size == 0:
		s.NS = api.NSEmpty
	case first.Kind == api.TokDelim:
		s.NS = api.NSAny
	default:
		if _, ok := sel.Space(r.names, first.Text); !ok {
			return api.Simple{}, fail(api.ErrPrefix, first)
		}
		s.NS, s.Prefix = api.NSNamed, strings.Clone(first.Text)
	}
	r.at += size + 1
	return s, nil
}
