package anb

import (
	"strings"

	"wattle/api"
	"wattle/chars"
)

// row is tokens that are an An+B, by its numbers' texts, and how many they are.
type row struct {
	a, b string
	used int
}

// head is tokens that an An+B begins with: A's text, what stands behind the n in its name, and the place behind them.
type head struct {
	a, rest string
	to      int
}

// find gives the longest row that a list begins with.
func find(list []api.Token) (row, bool) {
	at := passBlanks(list, 0)
	if at == len(list) {
		return row{}, false
	}
	t := list[at]
	switch {
	case t.Kind == api.TokIdent && chars.Same(t.Text, "even"):
		return row{"2", "0", at + 1}, true
	case t.Kind == api.TokIdent && chars.Same(t.Text, "odd"):
		return row{"2", "1", at + 1}, true
	case isWhole(t, api.TokNumber):
		return row{"0", t.Number, at + 1}, true
	}
	h, ok := readHead(list, at)
	if !ok {
		return row{}, false
	}
	return h.row(list)
}

// readHead gives the head at a place, at which a token stands.
func readHead(list []api.Token, at int) (head, bool) {
	h, name := head{a: "1", to: at + 1}, chars.Lower(list[at].Text)
	switch t := list[at]; {
	case isWhole(t, api.TokDimension):
		h.a = t.Number
	case t.Kind == api.TokIdent && strings.HasPrefix(name, "-"):
		h.a, name = "-1", name[1:]
	case t.Kind == api.TokIdent:
	case isSign(t, "+") && h.to < len(list) && list[h.to].Kind == api.TokIdent:
		name = chars.Lower(list[h.to].Text)
		h.to++
	default:
		return head{}, false
	}
	rest, ok := strings.CutPrefix(name, "n")
	h.rest = rest
	return h, ok
}

// row gives the longest row that begins with a head.
func (h head) row(list []api.Token) (row, bool) {
	switch {
	case h.rest == "":
		b, to := behind(list, h.to)
		return row{h.a, b, to}, true
	case h.rest == "-":
		at := passBlanks(list, h.to)
		if !isPlain(list, at) {
			return row{}, false
		}
		return row{h.a, "-" + list[at].Number, at + 1}, true
	}
	return row{h.a, h.rest, h.to}, h.rest[0] == '-' && isNumber(h.rest)
}

// behind gives the text of the B that stands behind a head alone, and the place behind it. Without one it's 0, and blanks are none of the row.
func behind(list []api.Token, to int) (string, int) {
	at := passBlanks(list, to)
	if at == len(list) {
		return "0", to
	}
	t := list[at]
	if isWhole(t, api.TokNumber) && isSigned(t.Number) {
		return t.Number, at + 1
	}
	number := passBlanks(list, at+1)
	if (isSign(t, "+") || isSign(t, "-")) && isPlain(list, number) {
		return t.Text + list[number].Number, number + 1
	}
	return "0", to
}

// passBlanks gives the place behind the blanks that stand at a place.
func passBlanks(list []api.Token, at int) int {
	for at < len(list) && list[at].Kind == api.TokSpace {
		at++
	}
	return at
}

// isSign tells whether a token is a sign.
func isSign(t api.Token, text string) bool { return t.Kind == api.TokDelim && t.Text == text }

// isWhole tells whether a token of a kind has a number that may be one of an An+B. The text is looked at, too: not all tokens that are handed in need be layer 3's.
func isWhole(t api.Token, kind int) bool {
	return t.Kind == kind && t.Whole && isNumber(t.Number)
}

// isPlain tells whether a number without a sign stands at a place.
func isPlain(list []api.Token, at int) bool {
	return at < len(list) && isWhole(list[at], api.TokNumber) && !isSigned(list[at].Number)
}

// isSigned tells whether a text begins with a sign.
func isSigned(s string) bool { return strings.HasPrefix(s, "+") || strings.HasPrefix(s, "-") }

// isNumber tells whether a text is a number's.
func isNumber(s string) bool {
	if isSigned(s) {
		s = s[1:]
	}
	for _, c := range []byte(s) {
		if !chars.Digit(int(c)) {
			return false
		}
	}
	return s != ""
}
