package parse

import (
	"errors"

	"wattle/anb"
	"wattle/api"
	"wattle/chars"
	"wattle/sel"
	"wattle/token"
)

// pseudo reads what stands behind a colon that begins a simple selector. What isn't supported is told as one of no Kind, which is never answered.
func (r *reader) pseudo(colon api.Token, ahead []api.Simple) (api.Simple, error) {
	second := r.take(api.TokColon)
	t := r.peek(0)
	name := chars.Lower(t.Text)
	switch {
	case t.Kind == api.TokIdent && (second || isOld(name)):
		return r.element(name)
	case t.Kind == api.TokIdent:
		return r.class(colon, name, ahead)
	case t.Kind == api.TokFunction && !second:
		return r.function(colon, name, ahead)
	}
	return api.Simple{}, r.wrong()
}

// isOld tells whether a pseudo-element may stand behind one colon, too.
func isOld(name string) bool {
	switch name {
	case "before", "after", "first-line", "first-letter":
		return true
	}
	return false
}

// element reads a pseudo-element of a name.
func (r *reader) element(name string) (api.Simple, error) {
	if !sel.Element(name) || r.deep > 1 {
		return api.Simple{}, r.wrong()
	}
	r.next()
	return api.Simple{Kind: api.SelPseudo, Name: name}, nil
}

// class reads a pseudo-class of a name.
func (r *reader) class(colon api.Token, name string, ahead []api.Simple) (api.Simple, error) {
	known, supported := Known(name, false)
	if !known {
		return api.Simple{}, r.wrong()
	}
	t := r.next()
	if !supported {
		r.refuse(colon)
		return api.Simple{}, nil
	}
	switch name {
	case "root":
		return api.Simple{Kind: api.SelRoot}, nil
	case "any-link":
		return api.Simple{Kind: api.SelLink}, nil
	case "first-child":
		return api.Simple{Kind: api.SelNth, AB: api.AB{B: 1}}, nil
	case "first-of-type":
		return r.ofType(colon, t, api.AB{B: 1}, ahead)
	}
	return api.Simple{Kind: api.SelState, Name: name}, nil
}

// function reads a function of a name, and the ) that closes it.
func (r *reader) function(colon api.Token, name string, ahead []api.Simple) (s api.Simple, err error) {
	known, supported := Known(name, true)
	if !known {
		return api.Simple{}, r.wrong()
	}
	t := r.next()
	switch {
	case !supported:
		r.refuse(colon)
		err = r.passOver()
	case name == "nth-child":
		s, err = r.nthChild(t)
	case name == "nth-of-type":
		s, err = r.nthOfType(colon, t, ahead)
	default:
		s.Kind = listKind(name)
		s.Of, err = r.within(t)
	}
	if err == nil {
		err = r.must(api.TokClose)
	}
	if err != nil {
		return api.Simple{}, err
	}
	return s, nil
}

// listKind gives the Kind of a function that has a list and nothing else.
func listKind(name string) int {
	switch name {
	case "is":
		return api.SelIs
	case "where":
		return api.SelWhere
	}
	return api.SelNot
}

// within reads the list of a function.
func (r *reader) within(function api.Token) ([]api.Complex, error) {
	if r.deep >= api.MaxDeep {
		return nil, fail(api.ErrDeep, function)
	}
	return r.selectors()
}

// nthChild reads what stands in nth-child.
func (r *reader) nthChild(function api.Token) (api.Simple, error) {
	ab, err := r.anb()
	if err != nil {
		return api.Simple{}, err
	}
	s := api.Simple{Kind: api.SelNth, AB: ab}
	if t := r.peek(0); t.Kind == api.TokIdent && chars.Same(t.Text, "of") {
		r.next()
		s.Of, err = r.within(function)
	}
	return s, err
}

// nthOfType reads what stands in nth-of-type.
func (r *reader) nthOfType(colon, function api.Token, ahead []api.Simple) (api.Simple, error) {
	ab, err := r.anb()
	if err != nil {
		return api.Simple{}, err
	}
	return r.ofType(colon, function, ab, ahead)
}

// ofType gives a pseudo-class that counts the elements of its compound's own name.
func (r *reader) ofType(colon, name api.Token, ab api.AB, ahead []api.Simple) (api.Simple, error) {
	if len(ahead) == 0 || ahead[0].Kind != api.SelType {
		r.refuse(colon)
		return api.Simple{}, nil
	}
	if r.deep >= api.MaxDeep {
		return api.Simple{}, fail(api.ErrDeep, name)
	}
	own := api.Complex{List: []api.Compound{{List: ahead[:1]}}}
	return api.Simple{Kind: api.SelNth, AB: ab, Of: sel.Copy([]api.Complex{own})}, nil
}

// anb reads an An+B, with the blanks ahead of it and behind.
func (r *reader) anb() (api.AB, error) {
	r.blanks()
	first := r.peek(0)
	a, b, used, err := anb.Parse(r.list[r.at:])
	switch {
	case errors.Is(err, api.ErrOver):
		return api.AB{}, api.Wrap(api.ErrOver, first.From, err)
	case err != nil:
		return api.AB{}, api.Wrap(api.ErrForm, first.From, err)
	case max(a, -a, b, -b) > api.MaxNth:
		return api.AB{}, fail(api.ErrOver, first)
	}
	r.at += used
	r.blanks()
	return api.AB{A: a, B: b}, nil
}

// passOver goes to the ) that closes a function whose tokens aren't read. What is open is kept in a list, since there may be more of it than calls can stand in one another.
func (r *reader) passOver() error {
	var closers []int
	some := false
	for {
		t := r.peek(0)
		last := len(closers) - 1
		switch {
		case t.Kind == api.TokEnd, token.Bad(t):
			return r.wrong()
		case last < 0 && t.Kind == api.TokClose:
			if !some {
				return r.wrong()
			}
			return nil
		case last >= 0 && t.Kind == closers[last]:
			closers = closers[:last]
		default:
			if kind, ok := closer(t.Kind); ok {
				closers = append(closers, kind)
			}
		}
		some = some || t.Kind != api.TokSpace
		r.next()
	}
}

// closer gives the kind of the token that closes what one of a kind opens.
func closer(kind int) (int, bool) {
	switch kind {
	case api.TokOpen, api.TokFunction:
		return api.TokClose, true
	case api.TokOpenSquare:
		return api.TokCloseSquare, true
	case api.TokOpenCurly:
		return api.TokCloseCurly, true
	}
	return 0, false
}
