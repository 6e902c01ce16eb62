package solve_test

import (
	"math"
	"slices"
	"strings"
	"testing"
	"unsafe"

	"wattle/api"
	"wattle/solve"
	"wattle/value"
)

// samples have all operators, words, letters that are alike, and none.
func samples() [][]api.Cond {
	return [][]api.Cond{
		nil, {cond(has, "")}, {cond(is, "a"), alike(is, "a")}, {cond(word, "a"), cond(word, "b"), cond(part, " ")}, {alike(begin, "Ab"), cond(end, "ba"), cond(dash, "A")}, {alike(word, "é-"), cond(9, "x"), cond(is, "\ufeff")},
	}
}

// fill writes over an answer's lists, with their spare room.
func fill(rows []api.Vector) {
	for _, v := range rows {
		for i := range v.Holds[:cap(v.Holds)] {
			v.Holds[:cap(v.Holds)][i] = i%2 == 0
		}
	}
	for i := range rows[:cap(rows)] {
		rows[:cap(rows)][i] = api.Vector{Value: "#"}
	}
}

// P7.4: what is handed in isn't changed, with its spare room, and that isn't looked at.
func TestArgumentsStay(t *testing.T) {
	for i, list := range samples() {
		whole := append(slices.Clone(list), alike(is, "q"), cond(part, "\xff"), cond(has, "z"))
		in, before := whole[:len(list)], slices.Clone(whole)
		rows, steps, err := solve.Solve(in, enough)
		again, steps2, _ := solve.Solve(slices.Clone(list), enough)
		if err != nil || steps != steps2 || !same(rows, again) || solve.Bound(in) != solve.Bound(slices.Clone(list)) || !slices.Equal(solve.Letters(in), solve.Letters(slices.Clone(list))) {
			t.Errorf("%d: %s, %v", i, told(rows), err)
		}
		holds := append(slices.Clone(rows[len(rows)-1].Holds), true, false, true)
		room := slices.Clone(holds)
		if row, err := solve.Find(in, holds[:len(list)], enough); err != nil || !sameRow(row, rows[len(rows)-1]) || !slices.Equal(holds, room) {
			t.Errorf("%d: %v, %v", i, row, err)
		}
		if !slices.Equal(whole, before) {
			t.Errorf("%d: the list was changed", i)
		}
	}
}

// P7.4: an answer stays when another one, or an argument, is written over.
func TestAnswersAreNew(t *testing.T) {
	for i, list := range samples() {
		in := slices.Clone(list)
		one, _, _ := solve.Solve(in, enough)
		two, steps, _ := solve.Solve(in, enough)
		holds := slices.Clone(one[len(one)-1].Holds)
		found, _ := solve.Find(in, holds, enough)
		other, _ := solve.Find(in, holds, enough)
		letters, letters2 := solve.Letters(in), solve.Letters(in)
		fill(one)
		fill([]api.Vector{other})
		for k := range letters[:cap(letters)] {
			letters[:cap(letters)][k] = -1
		}
		for k := range in {
			in[k] = cond(is, "#")
		}
		clear(holds)
		three, steps3, _ := solve.Solve(list, enough)
		if !same(two, three) || steps != steps3 || !sameRow(found, three[len(three)-1]) || !slices.Equal(letters2, solve.Letters(list)) {
			t.Errorf("%d: %s, %v", i, told(two), found)
		}
	}
}

// P7.4: no two lists of one answer share memory.
func TestRowsAreApart(t *testing.T) {
	for i, list := range samples() {
		want, _, _ := solve.Solve(list, enough)
		for k := range want {
			rows, _, _ := solve.Solve(list, enough)
			fill([]api.Vector{rows[k]})
			rows[k] = want[k]
			if !same(rows, want) {
				t.Errorf("%d: %d", i, k)
			}
		}
	}
}

// P7.4: texts' bytes stay as they are, and an answer stays when they are written over.
func TestTextsStay(t *testing.T) {
	for op := range api.OpPart + 2 {
		for _, fold := range []bool{false, true} {
			in := []byte("Ab")
			list := []api.Cond{{Op: op, Text: unsafe.String(&in[0], len(in)), Fold: fold}, {Op: is, Text: unsafe.String(&in[0], len(in))}}
			rows, _, err := solve.Solve(list, enough)
			row, err2 := solve.Find(list, rows[len(rows)-1].Holds, enough)
			if string(in) != "Ab" || err != nil || err2 != nil {
				t.Errorf("%d: %v, %v", op, err, err2)
			}
			in[0], in[1] = '#', '#'
			want, _, _ := solve.Solve([]api.Cond{{Op: op, Text: "Ab", Fold: fold}, {Op: is, Text: "Ab"}}, enough)
			if !same(rows, want) || !sameRow(row, want[len(want)-1]) {
				t.Errorf("%d: the argument is kept: %s", op, told(rows))
			}
		}
	}
}

// P1, P2: wild conditions, truths and budgets end, without a panic, twice in the same way.
func TestWild(t *testing.T) {
	bytes := make([]byte, 700)
	for i := range bytes {
		bytes[i] = byte(i * i >> 3)
	}
	ops := []int{math.MinInt, -1, 0, 1, 2, 3, 4, 5, 6, 7, 8, 1 << 32, 1<<32 + 7, math.MaxInt}
	budgets := []int{math.MinInt, -1, 0, 1, 17, 300, 2000}
	for n := range 600 {
		var list []api.Cond
		for k := range n % 5 {
			list = append(list, api.Cond{Op: ops[(n/5+k*k)%len(ops)], Text: string(bytes[n+k : n+k+(n+k)%4]), Fold: (n+k)%3 == 0})
		}
		budget, holds := budgets[n%len(budgets)], make([]bool, n%6)
		rows, steps, err := solve.Solve(list, budget)
		rows2, steps2, err2 := solve.Solve(slices.Clone(list), budget)
		row, err3 := solve.Find(list, holds, budget)
		row2, err4 := solve.Find(list, slices.Clone(holds), budget)
		if !same(rows, rows2) || steps != steps2 || steps > max(0, budget) || (err == nil) != (err2 == nil) || !sameRow(row, row2) || (err3 == nil) != (err4 == nil) || err != nil && len(rows) > 0 {
			t.Errorf("%v, %d: %s, %d, %v, %v", list, budget, told(rows), steps, err, err3)
		}
		if solve.Bound(list) != solve.Bound(slices.Clone(list)) || !slices.IsSorted(solve.Letters(list)) || solve.Bound(list) < 3 {
			t.Errorf("%v: %d", list, solve.Bound(list))
		}
	}
}

// P1, P7.2: long texts end in time, also those whose beginnings come again and again.
func TestLongTexts(t *testing.T) {
	long := strings.Repeat("a", 50000)
	twice := strings.Repeat("ab", 25000)
	for _, list := range [][]api.Cond{
		{cond(part, long)}, {cond(end, long+"b"), alike(is, "B")}, {cond(begin, twice), cond(part, twice+"a")}, {alike(word, long), cond(dash, long)}, {alike(end, twice[:200]), cond(end, "b"+twice[:200])}, {cond(end, twice), cond(part, "b"+twice)},
	} {
		rows, steps, err := solve.Solve(list, enough)
		if err != nil || len(rows) < 2 || steps > solve.Bound(list) {
			t.Errorf("%d, %d, %v", len(rows), steps, err)
		}
		for _, v := range rows[1:] {
			if !slices.Equal(v.Holds, value.All(list, v.Value)) {
				t.Errorf("%v of %d", v.Holds, len(v.Value))
			}
		}
	}
}

// P7.2: many conditions, all rows of which there are.
func TestManyConditions(t *testing.T) {
	var list []api.Cond
	for c := 'a'; c < 'k'; c++ {
		list = append(list, cond(part, string(c)))
	}
	rows, steps, err := solve.Solve(list, solve.Bound(list))
	if len(rows) != 1<<10 || rows[len(rows)-1].Value != "abcdefghij" || steps > solve.Bound(list) || err != nil {
		t.Errorf("%d, %d, %v", len(rows), steps, err)
	}
	if rows, _, err := solve.Solve(many(300, "a"), enough); len(rows) != 2 || err != nil {
		t.Errorf("%d, %v", len(rows), err)
	}
	if rows, steps, err := solve.Solve(append(list, many(300, "a")...), 3000); len(rows) != 0 || steps != 3000 || !isFault(err, api.ErrLimit, 0) {
		t.Errorf("%d, %d, %v", len(rows), steps, err)
	}
}
