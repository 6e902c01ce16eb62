package nth_test

import (
	"math"
	"math/big"
	"testing"

	"wattle/anb"
	"wattle/api"
	"wattle/nth"
)

const most = 1 << 62

// P5.3: the spans of one An+B, and of some.
func TestSpan(t *testing.T) {
	for i, x := range []struct {
		list        []api.AB
		head, round int
	}{
		{nil, 0, 1}, {[]api.AB{}, 0, 1}, {[]api.AB{{}}, 0, 1},
		{[]api.AB{{A: 2, B: 1}}, 0, 2}, {[]api.AB{{A: 2}}, 0, 2}, {[]api.AB{{A: 3, B: 5}}, 4, 3}, {[]api.AB{{A: 1, B: 1}}, 0, 1}, {[]api.AB{{A: 1, B: 2}}, 1, 1}, {[]api.AB{{A: 5, B: -3}}, 0, 5},
		{[]api.AB{{B: 4}}, 4, 1}, {[]api.AB{{B: 1}}, 1, 1}, {[]api.AB{{B: -4}}, 0, 1}, {[]api.AB{{A: -1, B: 3}}, 3, 1}, {[]api.AB{{A: -6, B: 9}}, 9, 6}, {[]api.AB{{A: -6, B: -9}}, 0, 6}, {[]api.AB{{A: -6, B: 1}}, 1, 6},
		{[]api.AB{{A: 4, B: 3}, {A: -6, B: 9}, {B: 2}}, 9, 12}, {[]api.AB{{A: -6, B: 9}, {B: 2}, {A: 4, B: 3}}, 9, 12}, {[]api.AB{{A: 4, B: 30}, {A: -6, B: 9}}, 29, 12}, {[]api.AB{{B: 2}, {B: 7}, {B: 5}}, 7, 1},
		{[]api.AB{{A: 2}, {A: 3}, {A: 4}, {A: 5}, {A: 6}, {A: 7}}, 0, 420}, {[]api.AB{{A: 6}, {A: 6}, {A: -6}}, 0, 6}, {[]api.AB{{A: 12}, {A: 8}}, 0, 24},
		{[]api.AB{{A: api.MaxAB, B: api.MaxAB}}, api.MaxAB - 1, api.MaxAB}, {[]api.AB{{A: -api.MaxAB, B: api.MaxAB}}, api.MaxAB, api.MaxAB}, {[]api.AB{{A: 2147483647}, {A: 2147483646}}, 0, 2147483647 * 2147483646}, {[]api.AB{{A: 2147483647}, {A: 2147483646}, {A: 2147483645}}, 0, most},
	} {
		if head, round := nth.Span(x.list); head != x.head || round != x.round {
			t.Errorf("%d: %d, %d", i, head, round)
		}
	}
}

// P5.3: at 2^62, and above.
func TestSpanOfGreatNumbers(t *testing.T) {
	for i, x := range []struct {
		list        []api.AB
		head, round int
	}{
		{[]api.AB{{A: most}}, 0, most}, {[]api.AB{{A: most - 1}}, 0, most - 1}, {[]api.AB{{A: most + 1}}, 0, most}, {[]api.AB{{A: math.MaxInt}}, 0, most},
		{[]api.AB{{A: -most}}, 0, most}, {[]api.AB{{A: 1 - most}}, 0, most - 1}, {[]api.AB{{A: -most - 1}}, 0, most}, {[]api.AB{{A: math.MinInt}}, 0, most}, {[]api.AB{{A: -math.MaxInt}}, 0, most},
		{[]api.AB{{B: most}}, most, 1}, {[]api.AB{{B: most - 1}}, most - 1, 1}, {[]api.AB{{B: most + 1}}, most, 1}, {[]api.AB{{B: math.MaxInt}}, most, 1}, {[]api.AB{{A: 1, B: most + 1}}, most, 1}, {[]api.AB{{A: 1, B: most}}, most - 1, 1}, {[]api.AB{{A: 3, B: math.MaxInt}}, most, 3},
		{[]api.AB{{B: math.MinInt}}, 0, 1}, {[]api.AB{{A: 2, B: math.MinInt}}, 0, 2}, {[]api.AB{{A: -2, B: math.MinInt}}, 0, 2}, {[]api.AB{{A: math.MinInt, B: math.MinInt}}, 0, most}, {[]api.AB{{A: math.MaxInt, B: math.MaxInt}}, most, most},
		{[]api.AB{{A: 1 << 61}, {A: 1 << 31}}, 0, 1 << 61}, {[]api.AB{{A: 1 << 61}, {A: 2}}, 0, 1 << 61}, {[]api.AB{{A: 1 << 61}, {A: 3}}, 0, most}, {[]api.AB{{A: 1 << 61}, {A: 5}, {A: 1}}, 0, most}, {[]api.AB{{A: most}, {A: 4}}, 0, most}, {[]api.AB{{A: most}, {A: most}}, 0, most}, {[]api.AB{{A: math.MaxInt}, {A: 7}, {A: math.MaxInt}}, 0, most},
		{[]api.AB{{A: 1 << 31}, {A: 1<<31 - 1}}, 0, 1<<62 - 1<<31}, {[]api.AB{{A: 1 << 31}, {A: 1<<31 + 1}}, 0, most}, {[]api.AB{{A: 3}, {A: (most - 1) / 3}}, 0, most - 1}, {[]api.AB{{A: 2}, {A: (most - 2) / 2}}, 0, most - 2},
	} {
		if head, round := nth.Span(x.list); head != x.head || round != x.round {
			t.Errorf("%d: %d, %d", i, head, round)
		}
	}
}

// P5.3: the least common multiple, counted without bounds.
func TestSpanByTheWords(t *testing.T) {
	numbers := []int{1, 2, 3, 4, 6, 30, 97, 1024, 65536, 99991, api.MaxAB, 1 << 32, 6700417, 1 << 40, 3 << 50, 1<<61 - 1, most, math.MaxInt}
	for _, a := range numbers {
		for _, b := range numbers {
			for _, c := range numbers {
				want := big.NewInt(1)
				for _, n := range []int{a, b, c} {
					x := big.NewInt(int64(n))
					want.Mul(want, new(big.Int).Quo(x, new(big.Int).GCD(nil, nil, want, x)))
				}
				if want.Cmp(big.NewInt(most)) > 0 {
					want.SetInt64(most)
				}
				if head, round := nth.Span([]api.AB{{A: a, B: c}, {A: -b, B: -c}, {A: c, B: a}}); int64(round) != want.Int64() || head != min(max(a, c)-1, most) {
					t.Errorf("%d, %d, %d: %d, %d", a, b, c, head, round)
				}
			}
		}
	}
}

// P5.3: above the head layer 4 says the same of a number, and of that and the round together.
func TestSpanComesRound(t *testing.T) {
	var list []api.AB
	for a := -8; a <= 8; a++ {
		for b := -12; b <= 12; b += 3 {
			list = append(list, api.AB{A: a, B: b}, api.AB{A: -a * 3, B: b * 1000003})
		}
	}
	for i := range list {
		some := []api.AB{list[i], list[(i*7+3)%len(list)], list[(i*31+5)%len(list)]}
		head, round := nth.Span(some)
		for n := head + 1; n <= head+2*round+20; n++ {
			for _, x := range some {
				if anb.Has(x.A, x.B, n) != anb.Has(x.A, x.B, n+round) {
					t.Fatalf("%v: %d, %d: %d", some, head, round, n)
				}
			}
		}
	}
}

// P5.4: numbers up to the head and the round together, above these, and at the edges.
func TestFold(t *testing.T) {
	for _, x := range []struct{ head, round, n, want int }{
		{3, 4, 7, 7}, {3, 4, 8, 4}, {3, 4, 9, 5}, {3, 4, 11, 7}, {3, 4, 12, 4}, {3, 4, 3, 3}, {3, 4, 0, 0}, {3, 4, -5, -5}, {3, 4, 4, 4},
		{0, 1, 1, 1}, {0, 1, 2, 1}, {0, 1, 9, 1}, {0, 2, 2, 2}, {0, 2, 3, 1}, {0, 2, 4, 2}, {5, 1, 5, 5}, {5, 1, 6, 6}, {5, 1, 7, 6}, {5, 1, 1 << 40, 6},
		{0, 0, 9, 9}, {0, -1, 9, 9}, {3, 0, 9, 9}, {3, -4, 9, 9}, {3, math.MinInt, 9, 9}, {3, math.MinInt, math.MaxInt, math.MaxInt}, {3, 0, math.MinInt, math.MinInt},
		{0, 1, math.MaxInt, 1}, {0, 1, math.MinInt, math.MinInt}, {0, 1, 0, 0}, {0, math.MaxInt, math.MaxInt, math.MaxInt}, {1, math.MaxInt, math.MaxInt, math.MaxInt}, {math.MaxInt, math.MaxInt, math.MaxInt, math.MaxInt}, {math.MaxInt, 1, math.MaxInt, math.MaxInt}, {math.MaxInt, math.MaxInt, math.MinInt, math.MinInt},
		{math.MaxInt - 1, 1, math.MaxInt, math.MaxInt}, {math.MaxInt - 2, 1, math.MaxInt, math.MaxInt - 1}, {math.MaxInt - 4, 2, math.MaxInt, math.MaxInt - 2}, {7, math.MaxInt - 8, math.MaxInt, 8}, {7, math.MaxInt - 7, math.MaxInt, math.MaxInt}, {most, most, math.MaxInt, math.MaxInt}, {most, 2, math.MaxInt, most + 1}, {most, 3, math.MaxInt, most + 3}, {most, 4, math.MaxInt, most + 3}, {1, 1, math.MinInt, math.MinInt},
	} {
		if got := nth.Fold(x.head, x.round, x.n); got != x.want {
			t.Errorf("%d, %d, %d: %d", x.head, x.round, x.n, got)
		}
	}
}

// P5.4: counted down by rounds.
func TestFoldByTheWords(t *testing.T) {
	for head := range 12 {
		for round := -2; round <= 9; round++ {
			for n := -30; n <= 80; n++ {
				want := n
				for round > 0 && want > head+round {
					want -= round
				}
				if got := nth.Fold(head, round, n); got != want {
					t.Fatalf("%d, %d, %d: %d", head, round, n, got)
				}
			}
		}
	}
}

// P5.3, P5.4: what layer 4 says of a number it says of what stands for it.
func TestFoldOfSpans(t *testing.T) {
	for a := -9; a <= 9; a++ {
		for b := -15; b <= 15; b++ {
			head, round := nth.Span([]api.AB{{A: a, B: b}})
			for _, n := range []int{1, 2, 3, 9, 10, 14, 15, 16, 17, 29, 30, 31, 100, 101, 102, 103, 104, 105, math.MaxInt - 3, math.MaxInt - 2, math.MaxInt - 1, math.MaxInt} {
				if anb.Has(a, b, n) != anb.Has(a, b, nth.Fold(head, round, n)) {
					t.Errorf("%s: %d", anb.Text(a, b), n)
				}
			}
		}
	}
}
