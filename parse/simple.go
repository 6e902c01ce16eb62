package parse

import (
	"strings"

	"wattle/api"
	"wattle/chars"
)

// operators are told by a sign with an = behind it, but for OpIs, which has the = alone.
var operators = [...]meaning{{"~", api.OpWord}, {"|", api.OpDash}, {"^", api.OpBegin}, {"$", api.OpEnd}, {"*", api.OpPart}}

var marks = [...]meaning{{"i", api.MarkFold}, {"s", api.MarkExact}}

// startsSimple tells whether a simple selector, but an element's name, starts at the place.
func (r *reader) startsSimple() bool {
	t := r.peek(0)
	switch t.Kind {
	case api.TokHash:
		return t.Whole
	case api.TokOpenSquare, api.TokColon:
		return true
	}
	return isSign(t, ".")
}

// simple reads the simple selector that starts at the place; ahead is what its compound has already.
func (r *reader) simple(ahead []api.Simple) (api.Simple, error) {
	t := r.next()
	switch t.Kind {
	case api.TokHash:
		return api.Simple{Kind: api.SelID, Name: strings.Clone(t.Text)}, nil
	case api.TokOpenSquare:
		return r.attribute()
	case api.TokColon:
		return r.pseudo(t, ahead)
	}
	name := r.peek(0)
	if err := r.must(api.TokIdent); err != nil {
		return api.Simple{}, err
	}
	return api.Simple{Kind: api.SelClass, Name: strings.Clone(name.Text)}, nil
}

// attribute reads what stands in brackets, and the ] .
func (r *reader) attribute() (api.Simple, error) {
	s, err := r.attributeName()
	if err != nil {
		return api.Simple{}, err
	}
	r.blanks()
	if r.take(api.TokCloseSquare) {
		s.Cond.Op = api.OpHas
		return s, nil
	}
	s.Cond, err = r.condition()
	if err != nil {
		return api.Simple{}, err
	}
	r.blanks()
	s.Mark = r.mark()
	s.Cond.Fold = s.Mark == api.MarkFold
	r.blanks()
	if err := r.must(api.TokCloseSquare); err != nil {
		return api.Simple{}, err
	}
	return s, nil
}

// attributeName reads an attribute's name, and the blanks ahead.
func (r *reader) attributeName() (api.Simple, error) {
	r.blanks()
	s, err := r.prefix(true)
	if err != nil {
		return api.Simple{}, err
	}
	if s.NS == api.NSNone && r.takeSign("*") {
		// It can stand there as a prefix's alone: so what is behind it, which isn't the | of one, is what's wrong.
		return api.Simple{}, r.wrong()
	}
	name := r.peek(0)
	if err := r.must(api.TokIdent); err != nil {
		return api.Simple{}, err
	}
	s.Kind, s.Name = api.SelAttr, strings.Clone(name.Text)
	return s, nil
}

// condition reads an operator and the text that it is about.
func (r *reader) condition() (api.Cond, error) {
	op := api.OpIs
	for _, m := range operators {
		if r.takeSign(m.text) {
			op = m.number
			break
		}
	}
	if !r.takeSign("=") {
		return api.Cond{}, r.wrong()
	}
	r.blanks()
	t := r.peek(0)
	if !r.take(api.TokString) && !r.take(api.TokIdent) {
		return api.Cond{}, r.wrong()
	}
	return api.Cond{Op: op, Text: strings.Clone(t.Text)}, nil
}

// mark reads the mark of a condition, if one stands there. Another name is left where it is, since just a ] can stand there then.
func (r *reader) mark() int {
	t := r.peek(0)
	for _, m := range marks {
		if t.Kind == api.TokIdent && chars.Same(t.Text, m.text) {
			r.next()
			return m.number
		}
	}
	return api.MarkNone
}
