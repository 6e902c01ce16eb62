package parse

import "wattle/api"

// reader reads selectors from tokens, one behind the other. It never goes on behind a TokEnd, so that what is behind the first one isn't looked at.
type reader struct {
	list  []api.Token
	end   api.Token // what stands behind the list
	at    int
	names api.Names
	deep  int // how many lists of selectors the place is within

	// unsupported is of the first thing that isn't supported. It is kept till the end, since any other error is told instead.
	unsupported error
}

func newReader(list []api.Token, names api.Names) *reader {
	r := &reader{list: list, names: names, end: api.Token{Kind: api.TokEnd}}
	if len(list) > 0 {
		r.end.From = list[len(list)-1].To
	}
	return r
}

// peek gives the token that stands some further on; the end's, where there is none.
func (r *reader) peek(further int) api.Token {
	if r.at+further < len(r.list) {
		return r.list[r.at+further]
	}
	return r.end
}

// next gives the token at the place, which is no TokEnd, and goes on behind it.
func (r *reader) next() api.Token {
	t := r.peek(0)
	r.at++
	return t
}

// take goes on behind a token of a kind, if one stands there.
func (r *reader) take(kind int) bool {
	ok := r.peek(0).Kind == kind
	if ok {
		r.next()
	}
	return ok
}

// takeSign goes on behind a sign, if it stands there.
func (r *reader) takeSign(text string) bool {
	ok := isSign(r.peek(0), text)
	if ok {
		r.next()
	}
	return ok
}

// must goes on behind a token of a kind; another one can't stand there.
func (r *reader) must(kind int) error {
	if !r.take(kind) {
		return r.wrong()
	}
	return nil
}

// blanks goes on behind the blanks that stand there, and tells whether there are some.
func (r *reader) blanks() bool {
	some := false
	for r.take(api.TokSpace) {
		some = true
	}
	return some
}

// wrong is the error of the token at the place, which can't stand there.
func (r *reader) wrong() error { return fail(api.ErrForm, r.peek(0)) }

// refuse notes that the pseudo-class of a colon isn't supported.
func (r *reader) refuse(colon api.Token) {
	if r.unsupported == nil {
		r.unsupported = fail(api.ErrUnsupported, colon)
	}
}

// fail gives an error that is met at a token.
func fail(kind api.Errno, t api.Token) error { return api.Fail(kind, t.From) }

// isSign tells whether a token is a sign.
func isSign(t api.Token, text string) bool { return t.Kind == api.TokDelim && t.Text == text }
