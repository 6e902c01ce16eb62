// Package chars is layer 2: see shared/doc/02-chars.md.
package chars

// Space tells whether a character is a blank.
func Space(c int) bool { return c == ' ' || c == '\t' || c == '\n' }

// Digit tells whether a character is a digit.
func Digit(c int) bool { return c >= '0' && c <= '9' }

// Hex gives the value of a digit of base 16.
func Hex(c int) (int, bool) {
	small := Small(c)
	switch {
	case Digit(c):
		return c - '0', true
	case small >= 'a' && small <= 'f':
		return small - 'a' + 10, true
	}
	return 0, false
}

// Start tells whether a name may start with a character.
func Start(c int) bool {
	small := Small(c)
	return small >= 'a' && small <= 'z' || c == '_' || c >= 0x80
}

// Name tells whether a name may have a character.
func Name(c int) bool { return Start(c) || Digit(c) || c == '-' }

// Small gives a character as a small letter.
func Small(c int) int {
	if c >= 'A' && c <= 'Z' {
		return c - 'A' + 'a'
	}
	return c
}
