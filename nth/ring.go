package nth

import "slices"

// ringBehind gives the truths that come round, of the numbers behind one that isn't below the head. The ring's room ends with it: what is put behind a part of it doesn't go to the set's memory.
func (s Set) ringBehind(n int) []bool {
	list := s.list()
	ring := list[s.head:len(list):len(list)]
	first := (n - s.head) % len(ring)
	return append(ring[first:], ring[:first]...)
}

// roundOfBoth gives the least round of what is in both of two rings. It may be far below the rings' common one, and that one is too long to be gone through; but all places of both rings meet that have one remainder by the greatest divisor of both. So a round of what is in both is just one of each ring, by those of its places that meet one of the other ring.
func roundOfBoth(a, b []bool) int {
	turn := divisor(len(a), len(b))
	return multiple(leastRound(meeting(a, b, turn)), leastRound(meeting(b, a, turn)))
}

// meeting gives a ring without what meets nothing in another one.
func meeting(ring, other []bool, turn int) []bool {
	met := make([]bool, turn)
	for i, in := range other {
		met[i%turn] = met[i%turn] || in
	}
	out := make([]bool, len(ring))
	for i, in := range ring {
		out[i] = in && met[i%turn]
	}
	return out
}

// leastRound gives the least round of a ring.
func leastRound(ring []bool) int {
	for round := 1; round < len(ring); round++ {
		if len(ring)%round == 0 && slices.Equal(ring[round:], ring[:len(ring)-round]) {
			return round
		}
	}
	return len(ring)
}
