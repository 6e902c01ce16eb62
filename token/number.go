package token

import (
	"wattle/api"
	"wattle/chars"
)

// startsNumber tells whether a number starts at a place.
func startsNumber(list []int, at int) bool {
	if isPlusMinus(list, at) {
		at++
	}
	return isOf(list, at, chars.Digit) || isFraction(list, at)
}

// isPlusMinus tells whether + or - stands at a place.
func isPlusMinus(list []int, at int) bool { return stands(list, at, '+') || stands(list, at, '-') }

// isFraction tells whether a point and a digit stand at a place.
func isFraction(list []int, at int) bool {
	return stands(list, at, '.') && isOf(list, at+1, chars.Digit)
}

// passDigits gives the place behind the digits that stand at a place.
func passDigits(list []int, at int) int {
	for isOf(list, at, chars.Digit) {
		at++
	}
	return at
}

// passExponent gives the place behind the exponent that stands at a place; the place itself, if there is none.
func passExponent(list []int, at int) int {
	if !stands(list, at, 'e') && !stands(list, at, 'E') {
		return at
	}
	first := at + 1
	if isPlusMinus(list, first) {
		first++
	}
	if !isOf(list, first, chars.Digit) {
		return at
	}
	return passDigits(list, first)
}

// passNumber gives the place behind a number's characters, and whether they have neither a point nor an exponent.
func passNumber(list []int, at int) (to int, whole bool) {
	if isPlusMinus(list, at) {
		at++
	}
	whole, to = true, passDigits(list, at)
	if isFraction(list, to) {
		whole, to = false, passDigits(list, to+1)
	}
	end := passExponent(list, to)
	return end, whole && end == to
}

// numeric gives the token of a number.
func numeric(list []int, at int) api.Token {
	to, whole := passNumber(list, at)
	t := api.Token{Kind: api.TokNumber, To: to, Number: Text(list, at, to), Whole: whole}
	switch {
	case startsName(list, to):
		t.Kind = api.TokDimension
		t.Text, t.To = readName(list, to)
	case stands(list, to, '%'):
		t.Kind = api.TokPercent
		t.To++
	}
	return t
}
