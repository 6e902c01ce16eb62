package solve

import (
	"slices"

	"wattle/api"
	"wattle/decode"
)

// place is where a walk may stand: what the machines' states are there, and from which place, by which character, the walk came first.
type place struct {
	states  string
	from, c int
}

// walk goes with all machines at once. It comes to a place first by the least of its values, as places are gone on from in the order in which they were found, by each letter in its order.
type walk struct {
	machines []machine
	places   []place
	seen     map[string]struct{} // the places' states
	told     map[string]struct{} // the rows' truths
	rows     []api.Vector

	at          int   // the place at which the walk stands
	here, there []int // the machines' states there, and at the next place
	key         []byte
}

// newWalk begins a walk, with nothing read.
func newWalk(list []api.Cond) *walk {
	w := &walk{seen: map[string]struct{}{}, told: map[string]struct{}{}, here: make([]int, len(list)), there: make([]int, len(list))}
	for _, c := range list {
		w.machines = append(w.machines, newMachine(c))
	}
	none := make([]bool, len(list))
	w.told[string(packTruths(nil, none))] = struct{}{}
	w.rows = append(w.rows, api.Vector{Holds: none, Absent: true})
	w.arrive(0)
	return w
}

// stand goes to a place that was found.
func (w *walk) stand(at int) {
	w.at = at
	unpack(w.places[at].states, w.here)
}

// read goes from the place at which the walk stands to the next one, and comes back.
func (w *walk) read(c int) {
	for i, m := range w.machines {
		w.there[i] = m.next(w.here[i], c)
	}
	w.arrive(c)
}

// arrive keeps the next place, and tells its row, if they are new.
func (w *walk) arrive(c int) {
	w.key = pack(w.key[:0], w.there)
	if _, ok := w.seen[string(w.key)]; ok {
		return
	}
	states := string(w.key)
	w.seen[states] = struct{}{}
	w.places = append(w.places, place{states, w.at, c})
	w.tell()
}

// tell tells the row of the place that was found last.
func (w *walk) tell() {
	holds := make([]bool, len(w.machines))
	for i, m := range w.machines {
		holds[i] = m.holds(w.there[i])
	}
	w.key = packTruths(w.key[:0], holds)
	if _, ok := w.told[string(w.key)]; ok {
		return
	}
	w.told[string(w.key)] = struct{}{}
	w.rows = append(w.rows, api.Vector{Holds: holds, Value: w.value()})
}

// value gives what is read on the way to the place that was found last.
func (w *walk) value() string {
	var back []int
	for at := len(w.places) - 1; at > 0; at = w.places[at].from {
		back = append(back, w.places[at].c)
	}
	slices.Reverse(back)
	return string(decode.Text(back))
}

// pack writes states behind some bytes, each in as few as tell it: most of the walk's memory is states.
func pack(out []byte, states []int) []byte {
	for _, n := range states {
		for n > 0x7f {
			out = append(out, byte(n)|0x80)
			n >>= 7
		}
		out = append(out, byte(n))
	}
	return out
}

// unpack reads what pack has written.
func unpack(packed string, states []int) {
	at := 0
	for i := range states {
		states[i] = 0
		for shift := 0; ; shift += 7 {
			b := packed[at]
			at++
			states[i] |= int(b&0x7f) << shift
			if b <= 0x7f {
				break
			}
		}
	}
}

// packTruths writes truths behind some bytes.
func packTruths(out []byte, list []bool) []byte {
	for _, truth := range list {
		b := byte(0)
		if truth {
			b = 1
		}
		out = append(out, b)
	}
	return out
}
