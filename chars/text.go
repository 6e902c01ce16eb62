package chars

import (
	"strconv"
	"strings"

	"wattle/decode"
)

const (
	standIn = 0xfffd
	mark    = 0xfeff
)

// Lower gives a text with small letters.
func Lower(s string) string {
	b := []byte(s)
	for i, c := range b {
		b[i] = byte(Small(int(c)))
	}
	return string(b)
}

// Same tells whether two texts are one, but for great and small letters.
func Same(a, b string) bool {
	if len(a) != len(b) {
		return false
	}
	for i := range len(a) {
		if Small(int(a[i])) != Small(int(b[i])) {
			return false
		}
	}
	return true
}

// Ident gives a text as a name in a style sheet.
func Ident(s string) string {
	var out strings.Builder
	list := characters(s)
	for i, c := range list {
		first := i == 0 || i == 1 && list[0] == '-'
		switch {
		case c == 0:
			out.WriteRune(standIn)
		case control(c) || c == mark || Digit(c) && first:
			out.WriteString(escape(c))
		case !Name(c) || c == '-' && len(list) == 1:
			out.WriteByte('\\')
			out.WriteRune(rune(c))
		default:
			out.WriteRune(rune(c))
		}
	}
	return out.String()
}

// Quote gives a text between marks.
func Quote(s string) string {
	var out strings.Builder
	out.WriteByte('"')
	for _, c := range characters(s) {
		switch {
		case c == 0:
			out.WriteRune(standIn)
		case control(c):
			out.WriteString(escape(c))
		case c == '"' || c == '\\':
			out.WriteByte('\\')
			out.WriteRune(rune(c))
		default:
			out.WriteRune(rune(c))
		}
	}
	out.WriteByte('"')
	return out.String()
}

// Names gives the parts of a text between blanks.
func Names(s string) []string {
	out := strings.FieldsFunc(s, func(r rune) bool {
		return Space(int(r)) || r == '\r' || r == '\f'
	})
	for i, part := range out {
		out[i] = strings.Clone(part) // the parts are new memory, and don't keep s
	}
	return out
}

// characters gives a text's characters, with no mark left out: layer 1 leaves out the one that is put ahead.
func characters(s string) []int {
	return decode.Chars(append(decode.Text([]int{mark}), s...))
}

// control tells whether a character is one that names and texts tell by its number alone.
func control(c int) bool { return c >= 1 && c <= 31 || c == 127 }

// escape gives a character by its number; the blank keeps a digit behind from being read as one of it.
func escape(c int) string { return `\` + strconv.FormatInt(int64(c), 16) + " " }
