package solve

import (
	"maps"
	"slices"

	"wattle/api"
	"wattle/chars"
	"wattle/decode"
)

const (
	mark   = 0xfeff
	last   = 0x10ffff
	blanks = " \t\n\f\r"
)

// Letters gives the characters of which values are made: what else a value may have is to the conditions as one of these.
func Letters(list []api.Cond) []int {
	fold := slices.ContainsFunc(list, func(c api.Cond) bool { return c.Fold })
	all := letters{}
	for _, cond := range list {
		for _, c := range characters(cond.Text) {
			all.add(c)
			if fold {
				all.add(other(c))
			}
		}
	}
	all.addBlank()
	all.add('-')
	all.addOneMore()
	return slices.Sorted(maps.Keys(all))
}

// letters is a set of characters.
type letters map[int]struct{}

func (l letters) add(c int) { l[c] = struct{}{} }

func (l letters) has(c int) bool {
	_, ok := l[c]
	return ok
}

// addBlank adds a blank that no text has: one that parts words, and does nothing else.
func (l letters) addBlank() {
	for _, c := range blanks {
		if !l.has(int(c)) {
			l.add(int(c))
			return
		}
	}
}

// addOneMore adds a character that no text has, whichever way its letters are looked at.
func (l letters) addOneMore() {
	for c := int('a'); c <= last; c = following(c) {
		if !l.has(c) && !l.has(other(c)) {
			l.add(c)
			return
		}
	}
}

// following gives the character that is tried behind one that is there.
func following(c int) int {
	switch c {
	case 'z':
		return '0'
	case '9':
		return 0x100
	case 0xd7ff:
		return 0xe000 // the numbers between are no characters
	}
	return c + 1
}

// other gives the great letter of a small one, and the small one of a great one; of what is no letter itself.
func other(c int) int {
	if c >= 'a' && c <= 'z' {
		return c - 'a' + 'A'
	}
	return chars.Small(c)
}

// blank tells whether a character parts words.
func blank(c int) bool { return chars.Space(c) || c == '\f' || c == '\r' }

// characters gives a text's characters, with no mark left out: layer 1 leaves out the one that is put ahead.
func characters(s string) []int {
	return decode.Chars(append(decode.Text([]int{mark}), s...))
}
