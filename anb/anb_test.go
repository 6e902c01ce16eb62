package anb_test

import (
	"errors"
	"math"
	"math/big"
	"slices"
	"strconv"
	"testing"

	"wattle/anb"
	"wattle/api"
	"wattle/token"
)

// isFault tells whether an error is a fault of a kind at place 0, by itself.
func isFault(err error, kind api.Errno) bool {
	var f *api.Fault
	return errors.As(err, &f) && f.Kind == kind && f.At == 0 && errors.Is(err, kind)
}

// P4.1: numbers' texts, others, and numbers that are over.
func TestWhole(t *testing.T) {
	for s, want := range map[string]int{
		"0": 0, "-0": 0, "+0": 0, "7": 7, "+7": 7, "-7": -7, "007": 7, "-0010": -10,
		"2147483647": api.MaxAB, "+2147483647": api.MaxAB, "-2147483647": -api.MaxAB,
		"0000000000000000000000000000000000000012": 12, "-0000000000000000000002147483647": -api.MaxAB,
	} {
		if n, err := anb.Whole(s); n != want || err != nil {
			t.Errorf("%q: %d, %v", s, n, err)
		}
	}
	for _, s := range []string{
		"", "+", "-", "++1", "--1", "+-1", "-+1", "1+", "1-", "1-2", " 1", "1 ", "\t1", "1\n", "+ 1", "1.0", ".5", "1e3", "1E3", "n", "1n", "0x10", "0b1", "1_000", "a", "١", "1\x00", "\xff", "inf", "NaN", "%",
		"99999999999999999999999x", "-99999999999999999999999.", "2147483648_", "9223372036854775808 ",
	} {
		if n, err := anb.Whole(s); n != 0 || !isFault(err, api.ErrForm) || errors.Is(err, api.ErrOver) {
			t.Errorf("%q: %d, %v", s, n, err)
		}
	}
	for _, s := range []string{
		"2147483648", "+2147483648", "-2147483648", "-2147483649", "4294967296", "4294967297", "9223372036854775807", "-9223372036854775808",
		"9223372036854775808", "-9223372036854775809", "18446744073709551616", "18446744073709551617", "-18446744073709551617", "000099999999999999999999999999999999",
	} {
		if n, err := anb.Whole(s); n != 0 || !isFault(err, api.ErrOver) || errors.Is(err, api.ErrForm) {
			t.Errorf("%q: %d, %v", s, n, err)
		}
	}
}

// P4.1: each character behind a digit, and alone.
func TestWholeOfEveryCharacter(t *testing.T) {
	for c := range 256 {
		digit := c >= '0' && c <= '9'
		for _, s := range []string{string([]byte{byte(c)}), "1" + string([]byte{byte(c)}), "-" + string([]byte{byte(c)})} {
			want, bad := strconv.Atoi(s)
			n, err := anb.Whole(s)
			if digit != (err == nil) || digit && (n != want || bad != nil) {
				t.Errorf("%q: %d, %v", s, n, err)
			}
		}
	}
}

// P4.3: texts, of ordinary numbers and of the least and the greatest ones.
func TestText(t *testing.T) {
	for _, x := range []struct {
		a, b int
		want string
	}{
		{0, 0, "0"}, {0, 3, "3"}, {0, -3, "-3"}, {0, 1, "1"}, {0, -1, "-1"},
		{1, 0, "n"}, {1, 1, "n+1"}, {1, -1, "n-1"}, {-1, 0, "-n"}, {-1, 3, "-n+3"}, {-1, -3, "-n-3"},
		{2, 0, "2n"}, {2, 1, "2n+1"}, {2, -5, "2n-5"}, {-2, 0, "-2n"}, {-2, 1, "-2n+1"}, {-10, -10, "-10n-10"},
		{api.MaxAB, -api.MaxAB, "2147483647n-2147483647"},
		{math.MaxInt, math.MinInt, "9223372036854775807n-9223372036854775808"}, {math.MinInt, math.MaxInt, "-9223372036854775808n+9223372036854775807"},
		{0, math.MinInt, "-9223372036854775808"},
	} {
		if got := anb.Text(x.a, x.b); got != x.want {
			t.Errorf("%d, %d: %q", x.a, x.b, got)
		}
	}
}

// P4.2, P4.3: what Text gives is read as what it tells.
func TestTextIsRead(t *testing.T) {
	numbers := []int{0, 1, -1, 2, -2, 9, 10, -10, 123, api.MaxAB, -api.MaxAB}
	for _, a := range numbers {
		for _, b := range numbers {
			list := token.Read([]byte(anb.Text(a, b)))
			gotA, gotB, used, err := anb.Parse(list)
			if gotA != a || gotB != b || used != len(list)-1 || err != nil {
				t.Errorf("%d, %d: %d, %d, %d, %v", a, b, gotA, gotB, used, err)
			}
		}
	}
}

// P4.3: numbers among those of an An+B, counted through.
func TestHas(t *testing.T) {
	for a := -7; a <= 7; a++ {
		for b := -20; b <= 20; b++ {
			among := map[int]bool{}
			for k := range 60 {
				among[a*k+b] = true
			}
			for n := -30; n <= 30; n++ {
				if got := anb.Has(a, b, n); got != (n >= 1 && among[n]) {
					t.Errorf("%d, %d, %d: %t", a, b, n, got)
				}
			}
		}
	}
}

// P4.3: the same of great numbers, counted without bounds.
func TestHasOfGreatNumbers(t *testing.T) {
	var numbers []int
	for _, n := range []int{0, 1, 2, 3, 7, api.MaxAB, 1 << 32, 1 << 62, math.MaxInt - 2, math.MaxInt - 1, math.MaxInt} {
		numbers = append(numbers, n, -n)
	}
	numbers = append(numbers, math.MinInt, math.MinInt+2)
	for _, a := range numbers {
		for _, b := range numbers {
			for _, n := range numbers {
				if got := anb.Has(a, b, n); got != has(a, b, n) {
					t.Errorf("%d, %d, %d: %t", a, b, n, got)
				}
			}
		}
	}
}

func has(a, b, n int) bool {
	if n < 1 || a == 0 {
		return n >= 1 && n == b
	}
	k, rest := new(big.Int).QuoRem(new(big.Int).Sub(big.NewInt(int64(n)), big.NewInt(int64(b))), big.NewInt(int64(a)), new(big.Int))
	return rest.Sign() == 0 && k.Sign() >= 0
}

// P4.4: what is handed in isn't changed, its spare room isn't looked at; answers don't share an error.
func TestMemory(t *testing.T) {
	for _, s := range []string{"", " n", "2n + 1", "even", "+n-7", "n+", "x", "n+9999999999"} {
		list := token.Read([]byte(s))
		list = list[:len(list)-1]
		whole := append(slices.Clone(list), token.Read([]byte(" +1 - 2"))...)
		before := slices.Clone(whole)
		a, b, used, err := anb.Parse(whole[:len(list)])
		if !slices.Equal(whole, before) {
			t.Errorf("%q: the argument was changed", s)
		}
		a2, b2, used2, err2 := anb.Parse(list)
		if a != a2 || b != b2 || used != used2 || (err == nil) != (err2 == nil) {
			t.Errorf("%q: the spare room was looked at", s)
		}
		if err == nil {
			continue
		}
		var f, g *api.Fault
		if !errors.As(err, &f) || !errors.As(err2, &g) || f == g {
			t.Errorf("%q: two answers share an error", s)
		}
	}
}
