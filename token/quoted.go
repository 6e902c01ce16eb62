package token

import (
	"wattle/api"
	"wattle/chars"
)

// quoted gives the token of a string.
func quoted(list []int, at int) api.Token {
	var out []int
	mark := list[at]
	at++
	for at < len(list) && list[at] != mark {
		switch {
		case list[at] == lineFeed:
			return api.Token{Kind: api.TokBadString, To: at}
		case list[at] != '\\':
			out = append(out, list[at])
			at++
		case at+1 < len(list) && isEscape(list, at):
			c, to := readEscape(list, at)
			out, at = append(out, c), to
		default:
			// It stands for nothing, with the end of a line behind it, or at the end.
			at = within(list, at+2)
		}
	}
	return api.Token{Kind: api.TokString, To: within(list, at+1), Text: text(out)}
}

// url gives the token of a url, whose characters begin at a place.
func url(list []int, at int) api.Token {
	var out []int
	for at < len(list) && list[at] != ')' {
		switch c := list[at]; {
		case isEscape(list, at):
			c, to := readEscape(list, at)
			out, at = append(out, c), to
		case chars.Space(c):
			at = passBlanks(list, at)
			if at < len(list) && list[at] != ')' {
				return badURL(list, at)
			}
		case isWrong(c):
			return badURL(list, at)
		default:
			out = append(out, c)
			at++
		}
	}
	return api.Token{Kind: api.TokURL, To: within(list, at+1), Text: text(out)}
}

// isWrong tells whether a url can't have a character, unless as an escape.
func isWrong(c int) bool {
	switch c {
	case '"', '\'', '(', '\\', 11, 127:
		return true
	}
	return c < 9 || c >= 14 && c <= 31
}

// badURL gives the token of a url that isn't right from a place on.
func badURL(list []int, at int) api.Token {
	for at < len(list) && list[at] != ')' {
		if isEscape(list, at) {
			_, at = readEscape(list, at)
		} else {
			at++
		}
	}
	return api.Token{Kind: api.TokBadURL, To: within(list, at+1)}
}
