package step_test

import (
	"math"
	"testing"

	"wattle/api"
	"wattle/step"
)

// P15.1: which steps fit, by each kind of term, by each combinator, and by what the context tells of the step ahead.
func TestTruths(t *testing.T) {
	for _, c := range []struct {
		list           string
		root           bool
		up, left, have string
		counts         []int
		want           string
	}{
		// Atoms: those that the list of truths has not are false.
		{list: "a", have: "1", want: "1"},
		{list: "a", have: "0", want: "0"},
		{list: "a", have: "", want: "0"},
		{list: "a, b, a.x", have: "10", want: "100"},
		{list: "a, b, a.x", have: "101", want: "101"},
		{list: "a, b, a.x", have: "11111", want: "111"},
		// All terms must hold.
		{list: "a.x#y", have: "111", want: "1"},
		{list: "a.x#y", have: "110", want: "0"},
		{list: "a.x#y", have: "011", want: "0"},
		{list: "*", want: "1"},
		{list: "::before", want: "1"},
		{list: "a::before", have: "0", want: "0"},
		{list: ":root", root: true, want: "1"},
		{list: ":root", want: "0"},
		{list: "a:not(:root)", have: "1", want: "01"},
		{list: "a:not(:root)", root: true, have: "1", want: "10"},
		// Rows: their last steps.
		{list: ":is(a, b)", have: "00", want: "000"},
		{list: ":is(a, b)", have: "01", want: "011"},
		{list: ":where(a, b)", have: "10", want: "101"},
		{list: ":not(a, b)", have: "00", want: "001"},
		{list: ":not(a, b)", have: "01", want: "010"},
		{list: ":is(a > b)", have: "01", up: "1", want: "011"},
		{list: ":is(a > b)", have: "10", up: "1", want: "100"},
		{list: ":is(a > b)", have: "01", up: "011", want: "000"},
		{list: ":not(:not(a), b)", have: "10", want: "1001"},
		{list: ":not(:not(a), b)", have: "11", want: "1010"},
		{list: ":any-link", have: "101", want: "1"},
		{list: ":any-link", have: "011", want: "1"},
		{list: ":any-link", have: "110", want: "0"},
		{list: ":any-link", have: "001", want: "0"},
		// Combinators: the first step of a row needs none, also behind another row.
		{list: "a b", have: "11", up: "10", want: "11"},
		{list: "a b", have: "11", up: "01", left: "11", want: "10"},
		{list: "a b", have: "10", up: "11", left: "11", want: "10"},
		{list: "a > b", have: "11", up: "10", want: "11"},
		{list: "a > b", have: "11", up: "01", left: "11", want: "10"},
		{list: "a + b", have: "11", left: "10", want: "11"},
		{list: "a + b", have: "11", up: "11", left: "01", want: "10"},
		{list: "a ~ b", have: "11", left: "10", want: "11"},
		{list: "a ~ b", have: "11", up: "11", left: "01", want: "10"},
		{list: "a ~ b", have: "11", up: "11", want: "10"},
		{list: "a b > a + b ~ a", have: "11", up: "11", left: "0011", want: "11111"},
		{list: "a b > a + b ~ a", have: "11", up: "10", left: "0001", want: "11001"},
		{list: "a b > a + b ~ a", have: "01", up: "11", left: "0011", want: "01010"},
		{list: "b, a > b, a + b", have: "11", up: "01", left: "10010", want: "11111"},
		{list: "b, a > b, a + b", have: "11", up: "10010", left: "01", want: "11010"},
		// Counters: what they count, and the numbers that they have.
		{list: ":nth-child(3)", counts: []int{2}, want: "1"},
		{list: ":nth-child(3)", counts: []int{1}, want: "0"},
		{list: ":nth-child(3)", counts: []int{3}, want: "0"},
		{list: ":nth-child(3)", counts: []int{math.MaxInt}, want: "0"},
		{list: ":nth-child(1)", want: "1"},
		{list: ":nth-child(2)", want: "0"},
		{list: ":nth-child(-n+3)", counts: []int{2}, want: "1"},
		{list: ":nth-child(-n+3)", counts: []int{3}, want: "0"},
		{list: ":nth-child(2n)", counts: []int{1}, want: "1"},
		{list: ":nth-child(2n)", counts: []int{2}, want: "0"},
		{list: ":nth-child(2n)", counts: []int{math.MaxInt - 1}, want: "0"},
		{list: ":nth-child(2n)", counts: []int{math.MaxInt}, want: "1"}, // one more than that is even
		{list: ":nth-child(2n)", counts: []int{-1}, want: "0"},          // 0 is none of the numbers
		{list: ":nth-child(2n)", counts: []int{math.MinInt}, want: "0"},
		{list: ":nth-child(3n+5)", counts: []int{4}, want: "1"},
		{list: ":nth-child(3n+5)", counts: []int{1}, want: "0"},
		{list: ":nth-child(3n+5)", counts: []int{7}, want: "1"},
		{list: ":nth-child(0n)", want: "0"},
		{list: ":nth-child(n)", want: "1"},
		{list: ":nth-child(2 of a, b)", have: "01", counts: []int{1}, want: "011"},
		{list: ":nth-child(2 of a, b)", have: "10", counts: []int{1}, want: "101"},
		{list: ":nth-child(2 of a, b)", have: "00", counts: []int{1}, want: "000"},
		{list: ":nth-child(2 of a, b)", have: "11", counts: []int{0}, want: "110"},
		{list: ":nth-child(2 of a > b)", have: "01", up: "1", counts: []int{1}, want: "011"},
		{list: ":nth-child(2 of a > b)", have: "10", up: "1", counts: []int{1}, want: "100"},
		{list: ":nth-child(2):nth-child(3n)", counts: []int{1, 2}, want: "1"},
		{list: ":nth-child(2):nth-child(3n)", counts: []int{2, 1}, want: "0"},
		{list: ":nth-child(1):nth-child(2)", counts: []int{0}, want: "0"},
		{list: ":nth-child(n of :nth-child(2))", counts: []int{1, 0}, want: "11"},
		{list: ":nth-child(n of :nth-child(2))", counts: []int{0, 1}, want: "00"},
	} {
		p := plan(t, c.list)
		context := api.Context{Root: c.root, Up: truths(c.up), Left: truths(c.left), Counts: c.counts}
		if got := told(step.Truths(p, context, truths(c.have))); got != c.want {
			t.Errorf("%s, %s, %s: %s, not %s", c.list, toldContext(context), c.have, got, c.want)
		}
	}
}

// P15.1: at the start nothing is true but Root, and the lists are as long as the plan has steps and counters.
func TestStart(t *testing.T) {
	for _, c := range []struct{ list, want string }{
		{"a", "r/0/0/"},
		{"a > .x:not(b), *", "r/0000/0000/"},
		{":nth-child(2n of :nth-child(3), a b):nth-child(2)", "r/0000/0000/0 0 0"},
	} {
		if got := toldContext(step.Start(plan(t, c.list))); got != c.want {
			t.Errorf("%s: %s, not %s", c.list, got, c.want)
		}
	}
	if got := toldContext(step.Start(api.Plan{})); got != "r///" {
		t.Error(got)
	}
}

// P15.2: what stands beneath an element. Without its own counts, and without what was ahead of it.
func TestDown(t *testing.T) {
	for _, c := range []struct{ list, up, left, fits, want string }{
		// The example: beneath an a the first step's truth is told.
		{"a > b", "", "", "10", "/10/00/"},
		{"a > b", "", "", "01", "/00/00/"},
		{"a > b", "11", "11", "01", "/00/00/"},
		{"a > b", "11", "11", "11", "/10/00/"},
		{"a > b", "", "", "1", "/10/00/"},
		{"a > b", "", "", "", "/00/00/"},
		{"a > b", "", "", "1111", "/10/00/"},
		{"a b", "", "", "10", "/10/00/"},
		{"a b", "10", "", "01", "/10/00/"},
		{"a b", "10", "", "", "/10/00/"},
		{"a b", "01", "11", "01", "/00/00/"},
		{"a b", "1", "", "0", "/10/00/"},
		{"a b", "0", "", "", "/00/00/"},
		{"a + b, a ~ b", "1111", "1111", "1111", "/0000/0000/"},
		{"a b > a + b ~ a", "00000", "00000", "11111", "/11000/00000/"},
		{"a b > a + b ~ a", "11111", "11111", "00000", "/10000/00000/"},
		{":nth-child(2):not(a b)", "11", "11", "000", "/100/000/0"},
		{"a", "1", "1", "1", "/0/0/"},
	} {
		p := plan(t, c.list)
		for _, root := range []bool{false, true} {
			context := api.Context{Root: root, Up: truths(c.up), Left: truths(c.left), Counts: []int{5, 6}}
			if got := toldContext(step.Down(p, context, truths(c.fits))); got != c.want {
				t.Errorf("%s, %s, %s: %s, not %s", c.list, toldContext(context), c.fits, got, c.want)
			}
		}
	}
}

// P15.2: what stands behind an element: above it is what there was, ahead of it is one more, which is counted.
func TestNext(t *testing.T) {
	for _, c := range []struct {
		list, up, left string
		counts         []int
		fits, want     string
	}{
		{"a + b", "", "", nil, "10", "/00/10/"},
		{"a + b", "", "11", nil, "01", "/00/00/"},
		{"a + b", "", "", nil, "1", "/00/10/"},
		{"a + b", "", "", nil, "", "/00/00/"},
		{"a ~ b", "", "", nil, "10", "/00/10/"},
		{"a ~ b", "", "10", nil, "01", "/00/10/"},
		{"a ~ b", "", "1", nil, "", "/00/10/"},
		{"a ~ b", "11", "01", nil, "01", "/11/00/"},
		// Up stays as it is, whatever the steps are for.
		{"a b, a > b", "1111", "1111", nil, "1111", "/1111/0000/"},
		{"a b, a > b", "1010", "0000", nil, "0101", "/1010/0000/"},
		{"a b, a > b", "01", "0000", nil, "1111", "/0100/0000/"},
		{"a b, a > b", "00001", "0000", nil, "1111", "/0000/0000/"},
		{"a b > a + b ~ a", "00000", "00000", nil, "11111", "/00000/00110/"},
		{"a b > a + b ~ a", "01011", "11111", nil, "00000", "/01011/00010/"},
		// Counters: of all elements.
		{":nth-child(3)", "0", "0", []int{0}, "0", "/0/0/1"},
		{":nth-child(3)", "0", "0", []int{3}, "0", "/0/0/4"},
		{":nth-child(3)", "0", "0", []int{4}, "1", "/0/0/4"},
		{":nth-child(3)", "0", "0", nil, "", "/0/0/1"},
		{":nth-child(3)", "0", "0", []int{7, 8}, "", "/0/0/4"},
		{":nth-child(2n)", "0", "0", []int{1}, "0", "/0/0/2"},
		{":nth-child(2n)", "0", "0", []int{2}, "0", "/0/0/1"},
		{":nth-child(2n)", "0", "0", []int{math.MaxInt}, "0", "/0/0/2"},
		{":nth-child(2n)", "0", "0", []int{-7}, "0", "/0/0/-6"},
		{":nth-child(2n)", "0", "0", []int{math.MinInt}, "0", "/0/0/-9223372036854775807"},
		{":nth-child(3n+5)", "0", "0", []int{6}, "0", "/0/0/7"},
		{":nth-child(3n+5)", "0", "0", []int{7}, "0", "/0/0/5"},
		{":nth-child(-3n+5)", "0", "0", []int{8}, "0", "/0/0/6"},
		{":nth-child(0n)", "0", "0", []int{0}, "0", "/0/0/1"},
		{":nth-child(0n)", "0", "0", []int{1}, "0", "/0/0/1"},
		// Counters of some elements: what isn't counted stands as it is, even if it isn't folded.
		{":nth-child(2n of a, b)", "000", "000", []int{1}, "000", "/000/000/1"},
		{":nth-child(2n of a, b)", "000", "000", []int{1}, "100", "/000/000/2"},
		{":nth-child(2n of a, b)", "000", "000", []int{1}, "010", "/000/000/2"},
		{":nth-child(2n of a, b)", "000", "000", []int{1}, "001", "/000/000/1"},
		{":nth-child(2n of a, b)", "000", "000", []int{77}, "001", "/000/000/77"},
		{":nth-child(2n of a, b)", "000", "000", []int{-3}, "", "/000/000/-3"},
		{":nth-child(2n of a, b)", "000", "000", nil, "001", "/000/000/0"},
		{":nth-child(2n of a ~ b)", "000", "000", []int{0}, "100", "/000/100/0"},
		{":nth-child(2n of a ~ b)", "000", "000", []int{0}, "010", "/000/000/1"},
		{":nth-child(5):nth-child(3 of a):nth-child(2)", "", "", []int{1, 1, 1}, "00", "/00/00/2 1 2"},
		{":nth-child(5):nth-child(3 of a):nth-child(2)", "", "", []int{1, 1, 1}, "10", "/00/00/2 2 2"},
		{":nth-child(5):nth-child(3 of a):nth-child(2)", "", "", []int{1}, "10", "/00/00/2 1 1"},
	} {
		p := plan(t, c.list)
		for _, root := range []bool{false, true} {
			context := api.Context{Root: root, Up: truths(c.up), Left: truths(c.left), Counts: c.counts}
			if got := toldContext(step.Next(p, context, truths(c.fits))); got != c.want {
				t.Errorf("%s, %s, %s: %s, not %s", c.list, toldContext(context), c.fits, got, c.want)
			}
		}
	}
}

// P15.1: a row selects what its last step fits, also a row within another one.
func TestSelected(t *testing.T) {
	for _, c := range []struct{ list, fits, want string }{
		{"a", "1", "1"},
		{"a", "0", "0"},
		{"a", "", "0"},
		{"a > b", "10", "0"},
		{"a > b", "01", "1"},
		{"a > b", "1", "0"},
		{"a > b", "011", "1"},
		{"a > .x:not(b), c d e", "100001", "101"},
		{"a > .x:not(b), c d e", "001110", "010"},
		{"a > .x:not(b), c d e", "001", "010"},
	} {
		if got := told(step.Selected(plan(t, c.list), truths(c.fits))); got != c.want {
			t.Errorf("%s, %s: %s, not %s", c.list, c.fits, got, c.want)
		}
	}
	if got := step.Selected(api.Plan{}, truths("11")); len(got) != 0 {
		t.Error(got)
	}
}

// P15.1: a plan of more than one list.
func TestLists(t *testing.T) {
	p := plan(t, "a b", "b", "a:nth-child(2)")
	c := api.Context{Up: truths("1000"), Counts: []int{1}}
	fits := step.Truths(p, c, truths("11"))
	if told(fits) != "1111" || told(step.Selected(p, fits)) != "111" {
		t.Error(told(fits))
	}
}
