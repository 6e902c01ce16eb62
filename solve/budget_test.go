package solve_test

import (
	"fmt"
	"math"
	"slices"
	"strings"
	"testing"

	"wattle/api"
	"wattle/solve"
)

// same tells whether two lists of rows are one.
func same(a, b []api.Vector) bool { return slices.EqualFunc(a, b, sameRow) }

func sameRow(v, w api.Vector) bool {
	return v.Absent == w.Absent && v.Value == w.Value && slices.Equal(v.Holds, w.Holds)
}

// checkBudgets holds Solve at budgets from far below to far above what it needs against P7.2 and P2, and Find's errors against P7.3.
func checkBudgets(t *testing.T, list []api.Cond) {
	t.Helper()
	rows, steps, err := solve.Solve(list, enough)
	if err != nil || steps < 1 || steps > solve.Bound(list) {
		t.Errorf("%v: %d, %v", list, steps, err)
	}
	for _, budget := range []int{math.MinInt, -1 << 32, -1, 0, 1, 2, steps / 3, steps / 2, steps - 2, steps - 1, steps, steps + 1, steps * 2, solve.Bound(list), 1<<32 + 1, math.MaxInt} {
		got, n, err := solve.Solve(list, budget)
		row, err2 := solve.Find(list, rows[len(rows)-1].Holds, budget)
		if budget >= steps {
			if err != nil || err2 != nil || n != steps || !same(got, rows) || !sameRow(row, rows[len(rows)-1]) {
				t.Errorf("%v, %d: %s, %d, %v, %v", list, budget, told(got), n, err, err2)
			}
		} else if !isFault(err, api.ErrLimit, 0) || !isFault(err2, api.ErrLimit, 0) || n != max(0, budget) || len(got) > 0 || !sameRow(row, api.Vector{}) {
			t.Errorf("%v, %d: %s, %d, %v, %v", list, budget, told(got), n, err, err2)
		}
	}
}

// P7.2, P2: budgets of 0, below what is needed, and enough.
func TestBudgets(t *testing.T) {
	for _, list := range [][]api.Cond{
		nil, {cond(has, "")}, {cond(has, "abc"), cond(0, "")}, {cond(is, "abc")}, {cond(is, "")}, {cond(word, "a")}, {alike(word, "ab")}, {cond(word, " ")}, {cond(dash, "en")}, {cond(begin, "ab"), cond(end, "ba")}, {alike(part, "aab"), cond(end, "b"), cond(word, "b")}, {cond(word, "a"), cond(word, "b"), cond(word, "c"), cond(part, " ")}, many(50, "a"),
	} {
		checkBudgets(t, list)
	}
}

// P7.2: Bound is no more than is needed where a machine has all the states that there may be.
func TestBoundIsMet(t *testing.T) {
	for _, list := range [][]api.Cond{{cond(word, "a")}, {cond(dash, "ab")}, {alike(word, "xyz")}, {alike(dash, "")}} {
		if _, steps, err := solve.Solve(list, solve.Bound(list)); steps != solve.Bound(list) || err != nil {
			t.Errorf("%v: %d of %d, %v", list, steps, solve.Bound(list), err)
		}
	}
}

// P7.2, P7.3: the first Text that isn't a right value, whatever the budget and the operator.
func TestWrongTexts(t *testing.T) {
	for i, x := range []struct {
		list []api.Cond
		at   int
	}{
		{[]api.Cond{cond(is, "\xff")}, 0}, {[]api.Cond{cond(is, "a"), cond(is, "a\x00")}, 1}, {[]api.Cond{cond(is, ""), cond(has, "\xed\xa0\x80"), cond(is, "\xff")}, 1}, {[]api.Cond{cond(has, ""), cond(word, "é"), alike(0, "\xe2\x82")}, 2}, {[]api.Cond{cond(9, "\x00"), cond(9, "\x00")}, 0}, {append(many(40, "\ufffd"), cond(word, "a \xc0\x80")), 40}, {[]api.Cond{cond(is, "\ufeff"), cond(is, "\xef\xbb")}, 1},
	} {
		for _, budget := range []int{math.MinInt, -1, 0, 1, 5, enough, math.MaxInt} {
			rows, steps, err := solve.Solve(x.list, budget)
			row, err2 := solve.Find(x.list, make([]bool, len(x.list)), budget)
			if !isFault(err, api.ErrArg, x.at) || !isFault(err2, api.ErrArg, x.at) || steps != 0 || len(rows) > 0 || !sameRow(row, api.Vector{}) {
				t.Errorf("%d, %d: %s, %d, %v, %v", i, budget, told(rows), steps, err, err2)
			}
		}
	}
}

// P7.3: rows that are there, the absent one, none, and errors in their order.
func TestFind(t *testing.T) {
	ab := []api.Cond{cond(part, "b"), cond(part, "a")}
	en := []api.Cond{cond(dash, "en"), alike(is, "EN"), cond(has, "")}
	for i, x := range []struct {
		list   []api.Cond
		holds  string
		budget int
		want   string
		kind   api.Errno
		at     int
	}{
		{nil, "", enough, "absent:", 0, 0}, {[]api.Cond{cond(has, "")}, "0", enough, "absent:0", 0, 0}, {[]api.Cond{cond(has, "")}, "1", enough, `"":1`, 0, 0}, {[]api.Cond{cond(is, "a"), cond(begin, "b")}, "00", enough, "absent:00", 0, 0},
		{ab, "00", 100, "absent:00", 0, 0}, {ab, "01", 100, `"a":01`, 0, 0}, {ab, "10", 100, `"b":10`, 0, 0}, {ab, "11", 100, `"ab":11`, 0, 0},
		{en, "111", 1000, `"en":111`, 0, 0}, {en, "101", 1000, `"en-":101`, 0, 0}, {en, "011", 1000, `"EN":011`, 0, 0}, {en, "001", 1000, `"":001`, 0, 0}, {en, "110", 1000, "", api.ErrNone, 0}, {en, "000", 1000, "absent:000", 0, 0},
		{[]api.Cond{cond(is, "b"), cond(is, "a")}, "11", 1000, "", api.ErrNone, 0}, {[]api.Cond{cond(word, "")}, "1", 1000, "", api.ErrNone, 0}, {[]api.Cond{cond(9, "a")}, "1", 1000, "", api.ErrNone, 0}, {[]api.Cond{cond(word, "a"), cond(part, "a")}, "10", 1000, "", api.ErrNone, 0},
		{ab, "", 100, "", api.ErrArg, 0}, {ab, "1", 100, "", api.ErrArg, 0}, {ab, "111", 100, "", api.ErrArg, 0}, {ab, "000", 0, "", api.ErrArg, 0}, {nil, "0", -1, "", api.ErrArg, 0}, {[]api.Cond{cond(is, ""), cond(is, "\xff")}, "1", 100, "", api.ErrArg, 0},
		{[]api.Cond{cond(is, ""), cond(is, "\xff")}, "11", 0, "", api.ErrArg, 1}, {ab, "00", 0, "", api.ErrLimit, 0}, {ab, "00", 3, "", api.ErrLimit, 0}, {ab, "11", -1, "", api.ErrLimit, 0}, {nil, "", 0, "", api.ErrLimit, 0},
	} {
		holds := make([]bool, len(x.holds))
		for i, c := range x.holds {
			holds[i] = c == '1'
		}
		row, err := solve.Find(x.list, holds, x.budget)
		switch {
		case x.kind != 0:
			if !isFault(err, x.kind, x.at) || !sameRow(row, api.Vector{}) {
				t.Errorf("%d: %v, %v", i, row, err)
			}
		case err != nil || told([]api.Vector{row}) != x.want:
			t.Errorf("%d: %v, %v", i, row, err)
		}
	}
}

// P7.2: rows by how many characters their Values have, not bytes; then by the Values.
func TestOrder(t *testing.T) {
	list := []api.Cond{cond(is, "\U0001f600"), cond(is, "zz"), cond(is, "é"), cond(is, "\uffff"), cond(is, "z"), cond(is, ""), cond(is, "\u20ac\u20ac"), cond(is, "aaa"), cond(is, "\ufeffa")}
	want := `"" "z" "\u00e9" "\uffff" "\U0001f600" "zz" "\u20ac\u20ac" "\ufeffa" "aaa"`
	rows, _, err := solve.Solve(list, enough)
	var got []string
	for _, v := range rows[1:] {
		got = append(got, fmt.Sprintf("%+q", v.Value))
	}
	if strings.Join(got, " ") != want || err != nil {
		t.Error(got, err)
	}
}
