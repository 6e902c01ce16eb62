package solve_test

import (
	"slices"
	"strings"
	"testing"
	"unicode/utf8"

	"wattle/api"
	"wattle/decode"
	"wattle/solve"
	"wattle/value"
)

// field is all short values of some characters, and what conditions hold of them.
type field struct {
	alphabet string // rising
	most     int
	values   []string
	have     []uint // the characters of each value, by their places in the alphabet
	conds    []api.Cond
	truths   [][]bool
}

// newField gives a field of conditions of all operators, with all short texts.
func newField(alphabet string, most int, of string, long int) *field {
	f := &field{alphabet: alphabet, most: most}
	f.values, f.have = texts(alphabet, most)
	list, _ := texts(of, long)
	for op := 0; op <= api.OpPart; op++ {
		for _, s := range list {
			f.conds = append(f.conds, cond(op, s), alike(op, s))
		}
	}
	for _, c := range f.conds {
		truths := make([]bool, len(f.values))
		for i, s := range f.values {
			truths[i] = value.Holds(c, s)
		}
		f.truths = append(f.truths, truths)
	}
	return f
}

// texts gives all texts of up to some characters of an alphabet, those with fewer ahead, and then the first ones by their characters; and which characters each has.
func texts(alphabet string, most int) (out []string, have []uint) {
	out, have = []string{""}, []uint{0}
	first := 0
	for range most {
		end := len(out)
		for i := first; i < end; i++ {
			place := 0
			for _, r := range alphabet {
				out, have = append(out, out[i]+string(r)), append(have, have[i]|1<<place)
				place++
			}
		}
		first = end
	}
	return out, have
}

// mask gives which characters of the alphabet are letters.
func (f *field) mask(t *testing.T, letters []int) uint {
	var out uint
	for _, c := range letters {
		place := utf8.RuneCountInString(f.alphabet[:max(0, strings.IndexRune(f.alphabet, rune(c)))])
		if !strings.ContainsRune(f.alphabet, rune(c)) {
			t.Fatalf("%q isn't in the alphabet", rune(c))
		}
		out |= 1 << place
	}
	return out
}

// key gives truths as a number.
func key(list []bool) int {
	out := 0
	for i, truth := range list {
		if truth {
			out |= 1 << i
		}
	}
	return out
}

// check holds Solve of some of the conditions against all short values.
func (f *field) check(t *testing.T, picks ...int) {
	var list []api.Cond
	for _, n := range picks {
		list = append(list, f.conds[n])
	}
	letters := f.mask(t, solve.Letters(list))
	first := make([]int, 1<<len(list)) // of each row the place, and 1 more, of the first value that is made of the letters
	least := make([]int, 1<<len(list)) // and how many characters any value has, and 1 more
	for i, s := range f.values {
		row := 0
		for k, n := range picks {
			if f.truths[n][i] {
				row |= 1 << k
			}
		}
		if least[row] == 0 {
			least[row] = utf8.RuneCountInString(s) + 1
		}
		if row != 0 && first[row] == 0 && f.have[i]&^letters == 0 {
			first[row] = i + 1
		}
	}
	rows := solved(t, list)
	for _, v := range rows[1:] {
		row, size := key(v.Holds), utf8.RuneCountInString(v.Value)
		if size > f.most && least[row] != 0 || size <= f.most && (first[row] == 0 || v.Value != f.values[first[row]-1] || size+1 != least[row]) {
			t.Fatalf("%v: %s, but %b", list, told(rows), row)
		}
		least[row] = 0
	}
	for row, size := range least[1:] {
		if size != 0 {
			t.Fatalf("%v: %s, but %b of %d", list, told(rows), row+1, size-1)
		}
	}
}

// solved gives Solve's rows, which are right by themselves: each has its value, and they come in order.
func solved(t *testing.T, list []api.Cond) []api.Vector {
	t.Helper()
	rows, steps, err := solve.Solve(list, enough)
	if err != nil || steps > solve.Bound(list) || len(rows) == 0 || !rows[0].Absent || rows[0].Value != "" || slices.Contains(rows[0].Holds, true) {
		t.Fatalf("%v: %s, %d, %v", list, told(rows), steps, err)
	}
	seen, letters := map[int]int{0: 1}, solve.Letters(list)
	for i, v := range rows[1:] {
		seen[key(v.Holds)]++
		if v.Absent || !slices.Equal(v.Holds, value.All(list, v.Value)) || seen[key(v.Holds)] != 1 || !decode.Right([]byte(v.Value)) || i > 0 && !isAhead(rows[i].Value, v.Value) {
			t.Fatalf("%v: %s", list, told(rows))
		}
		for _, c := range v.Value {
			if !slices.Contains(letters, int(c)) {
				t.Fatalf("%v: %s", list, told(rows))
			}
		}
	}
	return rows
}

// isAhead tells whether one value comes ahead of another one.
func isAhead(a, b string) bool {
	x, y := []rune(a), []rune(b)
	return len(x) < len(y) || len(x) == len(y) && slices.Compare(x, y) < 0
}

// P7.2: each short condition, and all two by two.
func TestPairsByTheWords(t *testing.T) {
	for _, f := range []*field{newField("\t !-ABabc", 4, "ab", 2), newField("\t\n -Aabd", 4, " -a", 2), newField(" -Aabé\u0101\U0001f600", 4, "é\U0001f600A", 1)} {
		for i := range f.conds {
			f.check(t, i)
			for j := range f.conds {
				f.check(t, i, j)
			}
		}
	}
}

// rand gives numbers by a fixed rule.
type rand uint32

func (r *rand) next(n int) int {
	*r = *r*1664525 + 1013904223
	return int(*r>>8) % n
}

// P7.2: short conditions three by three, and more.
func TestMoreByTheWords(t *testing.T) {
	r := rand(11)
	for _, f := range []*field{newField("\t -ABabc", 5, "aB", 2), newField("\t\n -Aab", 5, "a -", 2), newField(" -Aab", 6, "a", 3)} {
		for i := range 400 {
			var picks []int
			for range 3 + i%3 {
				picks = append(picks, r.next(len(f.conds)))
			}
			f.check(t, picks...)
		}
	}
}

// P7.2: texts whose beginnings come again in them, and values that leave them somewhere and go on in them somewhere.
func TestBeginningsByTheWords(t *testing.T) {
	list, _ := texts("ab", 6)
	list = append(list[1:], "aabaaab", "abaababaab", "aabaabaaa", "abcabcabd", "aaaaaaaab")
	for _, s := range list {
		for from := range len(s) {
			for to := range len(s) {
				for _, c := range "abc" {
					v := s[:from+1] + string(c) + s[to:]
					solved(t, []api.Cond{cond(part, s), cond(end, s), cond(is, v)})
				}
			}
		}
	}
}

// P7.2: longer conditions: the row of each value that has their texts somewhere is told, with a value that isn't longer.
func TestLongerByTheWords(t *testing.T) {
	r := rand(5)
	piece := func(most int) string {
		var out strings.Builder
		for range r.next(most + 1) {
			out.WriteByte("aaabbA"[r.next(6)])
		}
		return out.String()
	}
	for i := range 300 {
		var list []api.Cond
		for range 2 + i%4 {
			list = append(list, api.Cond{Op: 1 + r.next(7), Text: piece(7), Fold: r.next(4) == 0})
		}
		rows := solved(t, list)
		for range 300 {
			var s strings.Builder
			for range 1 + r.next(6) {
				c := list[r.next(len(list))]
				s.WriteString([]string{c.Text, strings.ToLower(c.Text), piece(2), "-", " ", "\t", "!é", "c"}[r.next(8)])
			}
			holds := value.All(list, s.String())
			k := slices.IndexFunc(rows, func(v api.Vector) bool { return slices.Equal(v.Holds, holds) })
			if k < 0 || utf8.RuneCountInString(rows[k].Value) > utf8.RuneCountInString(s.String()) {
				t.Fatalf("%v: %s, but %v of %q", list, told(rows), holds, s.String())
			}
		}
	}
}
