package blocks

import (
	"slices"

	"wattle/api"
	"wattle/chars"
)

// reader goes through a part of tokens. Where that ends is seen when it gets there, so that no more tokens than it needs are looked at.
type reader struct {
	list    []api.Token
	at, end int
}

func newReader(list []api.Token, from, to int) *reader {
	return &reader{list: list, at: max(from, 0), end: min(to, len(list))}
}

// more tells whether the part doesn't end at the place.
func (r *reader) more() bool { return r.at < r.end && r.list[r.at].Kind != api.TokEnd }

// is tells whether a token of one of some kinds stands at the place.
func (r *reader) is(kinds ...int) bool {
	return r.more() && slices.Contains(kinds, r.list[r.at].Kind)
}

// take goes on behind a token of a kind, if one stands there.
func (r *reader) take(kind int) bool {
	ok := r.is(kind)
	if ok {
		r.at++
	}
	return ok
}

// pass goes on behind all tokens of some kinds that stand there, and tells whether something is left.
func (r *reader) pass(kinds ...int) bool {
	for r.is(kinds...) {
		r.at++
	}
	return r.more()
}

// upTo goes on behind component values, up to one that is a token of one of some kinds.
func (r *reader) upTo(kinds ...int) {
	for r.more() && !r.is(kinds...) {
		r.value()
	}
}

// value goes on behind a component value. What is open is kept in a list, since there may be more of it than calls can stand in one another.
func (r *reader) value() {
	var closers []int
	for r.more() {
		kind, last := r.list[r.at].Kind, len(closers)-1
		r.at++
		if last >= 0 && kind == closers[last] {
			closers = closers[:last]
		} else if closing, ok := closer(kind); ok {
			closers = append(closers, closing)
		}
		if len(closers) == 0 {
			return
		}
	}
}

// closer gives the kind of the token that closes what one of a kind opens.
func closer(kind int) (int, bool) {
	switch kind {
	case api.TokOpen, api.TokFunction:
		return api.TokClose, true
	case api.TokOpenSquare:
		return api.TokCloseSquare, true
	case api.TokOpenCurly:
		return api.TokCloseCurly, true
	}
	return 0, false
}

// rule reads a rule. What has no block up to the part's end is none, unless it is an at-rule.
func (r *reader) rule() (api.Rule, bool) {
	if r.is(api.TokAt) {
		return r.atRule(), true
	}
	out := r.body(api.TokOpenCurly)
	return out, out.HasBlock
}

// atRule reads an at-rule. A semicolon behind a block isn't of it.
func (r *reader) atRule() api.Rule {
	name := chars.Lower(r.list[r.at].Text)
	r.at++
	out := r.body(api.TokOpenCurly, api.TokSemicolon)
	out.At, out.Name = true, name
	if !out.HasBlock {
		r.take(api.TokSemicolon)
	}
	return out
}

// body reads a rule's component values, up to a token of one of some kinds, and the block, if one stands there.
func (r *reader) body(ends ...int) api.Rule {
	out := api.Rule{From: r.at}
	r.upTo(ends...)
	out.To = r.at
	if !r.take(api.TokOpenCurly) {
		return out
	}
	out.HasBlock, out.Open = true, r.at
	r.upTo(api.TokCloseCurly)
	out.End = r.at
	r.take(api.TokCloseCurly)
	return out
}
