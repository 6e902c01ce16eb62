package step_test

import (
	"slices"
	"strings"
	"testing"

	"wattle/api"
	"wattle/step"
)

// P1, P15.1, P15.2: a row of many steps.
func TestLongRow(t *testing.T) {
	const many = 100000
	p := plan(t, "a"+strings.Repeat(" a > a + a ~ a", many))
	c := step.Start(p)
	one := []bool{true}
	for range 3 {
		c = step.Down(p, c, step.Truths(p, c, one))
		c = step.Next(p, c, step.Truths(p, c, one))
	}
	fits := step.Truths(p, c, one)
	if len(fits) != 4*many+1 || !slices.Equal(fits[:6], []bool{true, true, true, true, false, false}) || slices.Contains(fits[4:], true) {
		t.Error(told(fits[:40]))
	}
	if got := step.Selected(p, fits); !slices.Equal(got, []bool{false}) {
		t.Error(got)
	}
	if len(step.Key(c)) > 2*(4*many/8+1)+10 {
		t.Errorf("a Key of %d bytes", len(step.Key(c)))
	}
}

// P1, P15.1, P15.2: many rows, and many counters of many rows.
func TestManyCounters(t *testing.T) {
	const many, wide = 1000, 100
	within := strings.Repeat("b, ", wide) + "a"
	p := plan(t, strings.TrimPrefix(strings.Repeat(", :nth-child(2n of "+within+")", many), ", "))
	c, a := step.Start(p), []bool{false, true}
	for want := range 9 {
		fits := step.Truths(p, c, a)
		if rows := step.Selected(p, fits); len(rows) != many*(wide+2) || rows[wide] != true || rows[wide+1] != (want%2 == 1) || rows[0] {
			t.Fatal(want, told(rows[:wide+2]))
		}
		for _, n := range c.Counts {
			if n != want && n != 2-want%2 {
				t.Fatal(want, n)
			}
		}
		c = step.Next(p, c, fits)
	}
}

// P1, P15.1: lists within one another, as deep as they may be.
func TestDeepLists(t *testing.T) {
	p := plan(t, strings.Repeat(":not(", api.MaxDeep-1)+"a"+strings.Repeat(")", api.MaxDeep-1))
	for _, is := range []bool{false, true} {
		rows := step.Selected(p, step.Truths(p, step.Start(p), []bool{is}))
		for i, got := range rows {
			if got != (is == (i%2 == 0)) || len(rows) != api.MaxDeep {
				t.Error(told(rows))
			}
		}
	}
}
