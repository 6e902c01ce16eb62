package bounds_test

import (
	"math/big"
	"testing"

	"wattle/bounds"
)

// P7.1, P13.3, P16.3: what is above 2^62 is 2^62, and nothing else is.
func TestBounds(t *testing.T) {
	if bounds.Most != 4611686018427387904 {
		t.Error("Most")
	}
	numbers := []int{0, 1, 2, 3, 5, 1 << 20, 1<<31 - 1, 1 << 31, 1<<31 + 1, 1 << 32, bounds.Most / 5, bounds.Most/3 + 1, bounds.Most/2 - 1, bounds.Most / 2, bounds.Most/2 + 1, bounds.Most - 2, bounds.Most - 1, bounds.Most}
	upTo := func(x *big.Int) int { return int(min(x.Uint64(), bounds.Most)) }
	for _, a := range numbers {
		for _, b := range numbers {
			x, y := big.NewInt(int64(a)), big.NewInt(int64(b))
			product := new(big.Int).Mul(x, y)
			if !product.IsUint64() {
				product.SetUint64(1 << 63)
			}
			if got, want := bounds.Times(a, b), upTo(product); got != want {
				t.Errorf("%d times %d: %d, not %d", a, b, got, want)
			}
			if got, want := bounds.Plus(a, b), upTo(new(big.Int).Add(x, y)); got != want {
				t.Errorf("%d plus %d: %d, not %d", a, b, got, want)
			}
		}
	}
}
