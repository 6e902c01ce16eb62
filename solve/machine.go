package solve

import (
	"wattle/api"
	"wattle/chars"
	"wattle/value"
)

// spare is how many states a machine may have besides one for each of its text's characters.
const spare = 3

// machine reads a value character by character, and tells of what it has read whether a condition holds of it. Its states are numbers from 0 on; it begins at 0.
type machine interface {
	next(state, c int) int
	holds(state int) bool
}

// newMachine gives a condition's machine.
func newMachine(c api.Cond) machine {
	if !c.Fold {
		return newExact(c)
	}
	c.Text = chars.Lower(c.Text)
	return folded{newExact(c)}
}

// newExact gives the machine of a condition that takes great and small letters as they are.
func newExact(c api.Cond) machine {
	if value.Never(c) {
		return fixed(false)
	}
	text := prefix{characters(c.Text)}
	switch c.Op {
	case api.OpIs:
		return text
	case api.OpWord:
		return word{closed{text}}
	case api.OpDash:
		return dash{closed{text}}
	case api.OpBegin:
		return lasting{text}
	case api.OpEnd:
		return newSuffix(text)
	case api.OpPart:
		return lasting{newSuffix(text)}
	}
	return fixed(true)
}

// fixed is a machine that looks at nothing.
type fixed bool

func (m fixed) next(state, c int) int { return state }

func (m fixed) holds(state int) bool { return bool(m) }

// folded reads small letters in place of great ones.
type folded struct{ machine }

func (m folded) next(state, c int) int { return m.machine.next(state, chars.Small(c)) }

// lasting holds of all that goes on from what another machine holds of.
type lasting struct{ machine }

func (m lasting) next(state, c int) int {
	if m.holds(state) {
		return state
	}
	return m.machine.next(state, c)
}

// prefix holds of its text. Its states are how many characters of the text it has read, and lost.
type prefix struct{ text []int }

func (m prefix) next(state, c int) int {
	if state < len(m.text) && m.text[state] == c {
		return state + 1
	}
	return m.lost()
}

func (m prefix) holds(state int) bool { return state == len(m.text) }

// lost is the state in which what was read isn't how the text begins.
func (m prefix) lost() int { return len(m.text) + 1 }

// closed is a prefix with one state more: found, in which the text was read, and closed by what came behind.
type closed struct{ prefix }

func (m closed) holds(state int) bool { return state == m.found() || m.prefix.holds(state) }

func (m closed) found() int { return m.lost() + 1 }

// dash holds of its text, and of what begins with that and a -.
type dash struct{ closed }

func (m dash) next(state, c int) int {
	if state == m.found() || m.holds(state) && c == '-' {
		return m.found()
	}
	return m.prefix.next(state, c)
}

// word holds of what has its text between blanks.
type word struct{ closed }

func (m word) next(state, c int) int {
	switch {
	case state == m.found() || m.holds(state) && blank(c):
		return m.found()
	case blank(c):
		return 0
	}
	return m.prefix.next(state, c)
}

// suffix holds of what ends with its text. Its states are how many characters of the text, at most, what it has read ends with.
type suffix struct {
	prefix
	back []int // of each state: how many characters may still be there if another one comes than the text has; -1: not even none
}

// newSuffix gives a text's suffix machine. A state that would ask for the same character again is left out of the ways back, so that they are short.
func newSuffix(text prefix) suffix {
	m := suffix{text, make([]int, len(text.text)+1)}
	m.back[0] = -1
	match := 0 // with how many characters the text begins that stand ahead of the place, too
	for at := 1; at < len(m.back); at++ {
		m.back[at] = match
		if at == len(m.text) {
			break
		}
		if m.text[at] == m.text[match] {
			m.back[at] = m.back[match]
		}
		match = m.next(match, m.text[at])
	}
	return m
}

func (m suffix) next(state, c int) int {
	for state >= 0 && (state == len(m.text) || m.text[state] != c) {
		state = m.back[state]
	}
	return state + 1
}
