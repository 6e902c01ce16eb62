package step_test

import (
	"math"
	"slices"
	"testing"

	"wattle/api"
	"wattle/step"
)

// allTruths gives all lists of so many truths.
func allTruths(many int) (out [][]bool) {
	for n := range 1 << many {
		list := make([]bool, many)
		for i := range list {
			list[i] = n>>i&1 == 1
		}
		out = append(out, list)
	}
	return out
}

// allCounts gives all lists of so many numbers, some of which are as great or small as they may be.
func allCounts(many int) (out [][]int) {
	if many == 0 {
		return [][]int{nil}
	}
	for _, ahead := range allCounts(many - 1) {
		for _, n := range []int{0, 1, -1, 127, 128, 129, 255, 256, 16383, 16384, 1 << 32, math.MaxInt, math.MinInt, math.MinInt + 1} {
			out = append(out, append(slices.Clone(ahead), n))
		}
	}
	return out
}

// P15.4: of all contexts whose lists are as long no two have one Key; a context has one Key, whatever memory it stands in.
func TestKeys(t *testing.T) {
	for _, long := range [][3]int{{0, 0, 0}, {1, 1, 1}, {2, 2, 2}, {3, 3, 1}, {9, 0, 0}, {0, 9, 1}, {4, 4, 2}, {0, 0, 3}, {3, 2, 1}} {
		seen := map[string]api.Context{}
		for _, root := range []bool{false, true} {
			for _, up := range allTruths(long[0]) {
				for _, left := range allTruths(long[1]) {
					for _, counts := range allCounts(long[2]) {
						c := api.Context{Root: root, Up: up, Left: left, Counts: counts}
						key := step.Key(c)
						if other, ok := seen[key]; ok {
							t.Fatalf("%s, %s: one Key", toldContext(c), toldContext(other))
						}
						seen[key] = c
						if again := (api.Context{Root: root, Up: slices.Clone(up), Left: slices.Clone(left), Counts: slices.Clone(counts)}); step.Key(again) != key {
							t.Fatalf("%s: two Keys", toldContext(c))
						}
					}
				}
			}
		}
	}
}

// P15.4: contexts that differ in one place alone, wherever it is.
func TestNearKeys(t *testing.T) {
	for _, long := range []int{1, 7, 8, 9, 16, 17, 64, 65, 1000} {
		c := api.Context{Up: make([]bool, long), Left: make([]bool, long), Counts: make([]int, long)}
		seen := map[string]int{step.Key(c): -1}
		put := func(at int) {
			key := step.Key(c)
			if other, ok := seen[key]; ok {
				t.Fatalf("%d: %d and %d have one Key", long, at, other)
			}
			seen[key] = at
		}
		for i := range long {
			c.Up[i] = true
			put(3 * i)
			c.Up[i], c.Left[i] = false, true
			put(3*i + 1)
			c.Left[i], c.Counts[i] = false, 1<<(i%64)
			put(3*i + 2)
			c.Counts[i] = 0
		}
		c.Root = true
		put(-2)
	}
}

// P15.4: lists without elements and nil lists are one.
func TestEmptyKeys(t *testing.T) {
	if step.Key(api.Context{}) != step.Key(api.Context{Up: []bool{}, Left: []bool{}, Counts: []int{}}) {
		t.Error("two Keys")
	}
}
