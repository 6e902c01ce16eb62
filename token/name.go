package token

import (
	"wattle/api"
	"wattle/chars"
)

// hexDigits is how many digits an escape has at most.
const hexDigits = 6

// isEscape tells whether an escape starts at a place.
func isEscape(list []int, at int) bool {
	return stands(list, at, '\\') && !stands(list, at+1, lineFeed)
}

// readEscape gives what the escape at a place stands for, and the place behind it. What may be no character, or a 0, is left to text.
func readEscape(list []int, at int) (c, to int) {
	first := at + 1
	to = first
	for to < len(list) && to < first+hexDigits {
		digit, ok := chars.Hex(list[to])
		if !ok {
			break
		}
		c = c*16 + digit
		to++
	}
	switch {
	case to > first && isOf(list, to, chars.Space):
		return c, to + 1
	case to > first || to == len(list):
		return c, to
	}
	return list[to], to + 1
}

// startsName tells whether a name starts at a place.
func startsName(list []int, at int) bool {
	if stands(list, at, '-') {
		at++
		if stands(list, at, '-') {
			return true
		}
	}
	return isOf(list, at, chars.Start) || isEscape(list, at)
}

// hasName tells whether something that a name may have stands at a place.
func hasName(list []int, at int) bool {
	return isOf(list, at, chars.Name) || isEscape(list, at)
}

// readName gives a name's characters from a place on, and the place behind them.
func readName(list []int, at int) (name string, to int) {
	var out []int
	for hasName(list, at) {
		c, next := list[at], at+1
		if isEscape(list, at) {
			c, next = readEscape(list, at)
		}
		out, at = append(out, c), next
	}
	return text(out), at
}

// named gives the token of a name.
func named(list []int, at int) api.Token {
	name, to := readName(list, at)
	if !stands(list, to, '(') {
		return api.Token{Kind: api.TokIdent, To: to, Text: name}
	}
	to++
	first := passBlanks(list, to)
	quote := stands(list, first, '"') || stands(list, first, '\'')
	if chars.Same(name, "url") && !quote {
		return url(list, first)
	}
	return api.Token{Kind: api.TokFunction, To: to, Text: name}
}
