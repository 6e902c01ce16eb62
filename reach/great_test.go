package reach_test

import (
	"strconv"
	"strings"
	"testing"

	"wattle/api"
	"wattle/reach"
)

// P16.2: paths of many elements, and walks through many contexts, or past many letters.
func TestGreat(t *testing.T) {
	pairs := ""
	for i := range 10 {
		n := strconv.Itoa(i)
		pairs += ", a" + n + " b" + n
	}
	pairs = strings.TrimPrefix(pairs, ", ")
	for _, x := range []struct {
		a, b string
		want int
	}{
		{":nth-child(" + strconv.Itoa(api.MaxNth) + ")", ":root", api.MaxNth + 1},
		{":nth-child(97n):nth-child(101n):nth-child(-n+9797)", "a", 9798},
		{":nth-child(20 of .a):nth-child(20 of .b):not(:nth-child(n of .a.b)):nth-child(40)", "a", 0},
		{"a" + strings.Repeat(" > a", 1000), "b", 1001},
		{"a" + strings.Repeat(" + a", 500), "b", 502},
		{"a" + strings.Repeat(" a", 500), "a a", 0},
		{".a .b .c .d .e .f .g .h .i", ".j", 9},
		{pairs, "b0, " + pairs, 0},
		{strings.Repeat(":not(", api.MaxDeep-1) + "a" + strings.Repeat(")", api.MaxDeep-1), "a", 1},
	} {
		a := ask(t, x.a, x.b)
		f, steps, err := reach.Search(a.plan, reach.Only(a.plan, 0, 1), 1<<62)
		if err != nil || len(f.Path) != x.want || steps > reach.Bound(a.plan) {
			t.Errorf("%.60s: %d elements, %d steps, %v", x.a, len(f.Path), steps, err)
		}
	}
}
