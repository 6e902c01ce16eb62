package decode_test

import (
	"math"
	"slices"
	"testing"

	"wattle/decode"
)

// roomy gives a list with spare room, and all that room, in which marks stand.
func roomy[T any](list []T, mark T) (part, whole []T) {
	whole = append(slices.Clone(list), mark, mark, mark, mark)
	return whole[:len(list)], whole
}

func fill[T any](list []T, x T) {
	list = list[:cap(list)]
	for i := range list {
		list[i] = x
	}
}

// checkMemory holds a call against P1.4: neither it nor what is done with its answer changes what was handed in, or another answer.
func checkMemory[T, U comparable](t *testing.T, name string, list []T, mark T, other U, call func([]T) []U) {
	t.Helper()
	in, whole := roomy(list, mark)
	before := slices.Clone(whole)
	one, two := call(in), call(in)
	want := slices.Clone(one)
	if !slices.Equal(whole, before) {
		t.Errorf("%s: the argument was changed", name)
	}
	fill(one, other)
	if !slices.Equal(whole, before) || !slices.Equal(two, want) {
		t.Errorf("%s: the answer isn't new memory", name)
	}
	fill(whole, mark)
	if !slices.Equal(two, want) {
		t.Errorf("%s: the argument is kept", name)
	}
}

// P1.4.
func TestMemory(t *testing.T) {
	for _, s := range []string{"", "abc", "\ufeffa\xff€"} {
		checkMemory(t, "Chars", []byte(s), '#', -7, decode.Chars)
	}
	for _, list := range [][]int{nil, {'a', 'b'}, {'a', 13, 10, 0, 12, -1}, {0x20ac, 0x1f600, 'a'}} {
		checkMemory(t, "Prepare", list, -7, -8, decode.Prepare)
		checkMemory(t, "Text", list, -7, '#', decode.Text)
		in, whole := roomy(list, 10)
		before := slices.Clone(whole)
		decode.Lines(in, 9)
		if !slices.Equal(whole, before) {
			t.Error("Lines: the argument was changed")
		}
	}
	b, whole := roomy([]byte("a€\xe2\x82"), 'x')
	decode.Right(b)
	if string(whole) != "a€\xe2\x82xxxx" {
		t.Error("Right: the argument was changed")
	}
}

// P1.3, P1.4: what stands in the spare room isn't looked at.
func TestSpareRoom(t *testing.T) {
	b := []byte("\xe2\x82\xac")
	if got := decode.Chars(b[:2]); !slices.Equal(got, []int{0xfffd}) {
		t.Errorf("%x", got)
	}
	if decode.Right(b[:2]) {
		t.Error("Right")
	}
	list := []int{13, 10}
	if got := decode.Prepare(list[:1]); !slices.Equal(got, []int{10}) {
		t.Errorf("%x", got)
	}
}

// P1, P2: wild arguments end, without a panic, twice in the same way.
func TestWildArguments(t *testing.T) {
	wild := []int{math.MinInt, -1 << 32, -1, 0, 10, 12, 13, 'a', 0xd800, 0xfeff, 0x110000, 1<<32 + 13, 1<<32 + 0xfeff, math.MaxInt}
	bytes := make([]byte, 4096)
	for i := range bytes {
		bytes[i] = byte(i * i >> 3)
	}
	for n := range wild {
		list := append(slices.Clone(wild[n:]), wild[:n]...)
		if !slices.Equal(decode.Prepare(list), decode.Prepare(slices.Clone(list))) || !slices.Equal(decode.Text(list), decode.Text(slices.Clone(list))) {
			t.Errorf("%d: two answers", n)
		}
		for _, at := range wild {
			l1, p1 := decode.Lines(list, at)
			l2, p2 := decode.Lines(slices.Clone(list), at)
			if l1 != l2 || p1 != p2 || l1 < 0 || p1 < 0 || l1+p1 > len(list) {
				t.Errorf("%d: %d, %d", at, l1, p1)
			}
		}
	}
	for n := range bytes {
		if !slices.Equal(decode.Chars(bytes[n:]), decode.Chars(slices.Clone(bytes[n:]))) || decode.Right(bytes[n:]) != decode.Right(slices.Clone(bytes[n:])) {
			t.Errorf("%d: two answers", n)
		}
	}
}
