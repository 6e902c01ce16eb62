package decode

// reading is a character of which some bytes were read, with the bounds of the byte behind these.
type reading struct {
	bytes     []byte
	char      rune
	size      int
	low, high byte
}

// read gives the character whose bytes b begins with, and how many these are. Without one it tells how many bytes the stand-in takes. b isn't empty.
func read(b []byte) (c rune, size int, ok bool) {
	r := begin(b)
	switch first := b[0]; {
	case first < 0x80:
		return r.char, r.size, true
	case first >= 0xf0 && first <= 0xf4:
		if !r.more() {
			break
		}
		fallthrough
	case first >= 0xe0 && first <= 0xef:
		if !r.more() {
			break
		}
		fallthrough
	case first >= 0xc2 && first <= 0xdf:
		if !r.more() {
			break
		}
		return r.char, r.size, true
	}
	return 0, r.size, false
}

// begin reads the first byte. Just the byte right behind it may have narrower bounds than the others: they leave out the characters that fewer bytes tell, and the numbers that are no characters.
func begin(b []byte) reading {
	r := reading{bytes: b, char: rune(b[0]), size: 1, low: 0x80, high: 0xbf}
	switch first := b[0]; {
	case first >= 0xf0:
		r.char &= 0x07
	case first >= 0xe0:
		r.char &= 0x0f
	case first >= 0x80:
		r.char &= 0x1f
	}
	switch b[0] {
	case 0xe0:
		r.low = 0xa0
	case 0xed:
		r.high = 0x9f
	case 0xf0:
		r.low = 0x90
	case 0xf4:
		r.high = 0x8f
	}
	return r
}

// more reads one byte more, if it is one that the character may go on with.
func (r *reading) more() bool {
	if r.size == len(r.bytes) {
		return false
	}
	b := r.bytes[r.size]
	if b < r.low || b > r.high {
		return false
	}
	r.char = r.char<<6 | rune(b&0x3f)
	r.size++
	r.low, r.high = 0x80, 0xbf
	return true
}
