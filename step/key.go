package step

import "wattle/api"

// Key gives a context as a text.
func Key(c api.Context) string {
	out := make([]byte, 0, 1+(len(c.Up)+len(c.Left))/8+2+len(c.Counts))
	out = appendTruths(out, []bool{c.Root})
	out = appendTruths(out, c.Up)
	out = appendTruths(out, c.Left)
	for _, n := range c.Counts {
		out = appendNumber(out, uint64(n))
	}
	return string(out)
}

// appendTruths puts truths behind a text, eight a byte.
func appendTruths(out []byte, truths []bool) []byte {
	for i, is := range truths {
		if i%8 == 0 {
			out = append(out, 0)
		}
		if is {
			out[len(out)-1] |= 1 << (i % 8)
		}
	}
	return out
}

// appendNumber puts a number behind a text, seven bits a byte. All bytes but its last one are marked, so that none is another one's beginning.
func appendNumber(out []byte, n uint64) []byte {
	for n >= 0x80 {
		out = append(out, byte(n)|0x80)
		n >>= 7
	}
	return append(out, byte(n))
}
