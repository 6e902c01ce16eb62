// Package decode is layer 1: see shared/doc/01-decode.md.
package decode

import "unicode/utf8"

const (
	standIn = 0xfffd
	mark    = 0xfeff
	last    = 0x10ffff

	lineFeed       = 10
	formFeed       = 12
	carriageReturn = 13
)

// Chars gives the characters of bytes.
func Chars(b []byte) []int {
	out := make([]int, 0, len(b))
	for at := 0; at < len(b); {
		c, size, ok := read(b[at:])
		if !ok {
			c = standIn
		}
		if c != mark || at != 0 {
			out = append(out, int(c))
		}
		at += size
	}
	return out
}

// Prepare gives characters as a style sheet has them.
func Prepare(list []int) []int {
	out := make([]int, 0, len(list))
	for i, c := range list {
		switch {
		case c == carriageReturn && i+1 < len(list) && list[i+1] == lineFeed:
			// The one behind it tells the end of the line.
		case c == carriageReturn || c == formFeed:
			out = append(out, lineFeed)
		case c == 0:
			out = append(out, standIn)
		default:
			out = append(out, int(character(c)))
		}
	}
	return out
}

// Text gives characters as bytes.
func Text(list []int) []byte {
	out := make([]byte, 0, len(list))
	for _, c := range list {
		out = utf8.AppendRune(out, character(c))
	}
	return out
}

// Right tells whether bytes are characters' bytes, without a nought among them.
func Right(b []byte) bool {
	for len(b) > 0 {
		c, size, ok := read(b)
		if !ok || c == 0 {
			return false
		}
		b = b[size:]
	}
	return true
}

// Lines tells in which line, and at which place in it, each of some characters is.
func Lines(list []int, at int) (line, place int) {
	at = max(0, min(at, len(list)))
	for _, c := range list[:at] {
		place++
		if c == lineFeed {
			line, place = line+1, 0
		}
	}
	return line, place
}

// character gives a number as a character: the stand-in for what is none. It looks at the number while that is an int, since a rune would lose a great one's bits.
func character(c int) rune {
	if c < 0 || c > last || c >= 0xd800 && c <= 0xdfff {
		return standIn
	}
	return rune(c)
}
