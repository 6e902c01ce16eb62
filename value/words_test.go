package value_test

import (
	"regexp"
	"slices"
	"strings"
	"testing"
	"unsafe"

	"wattle/api"
	"wattle/value"
)

// The document's words as patterns, of a condition's operator: %s is its Text.
var patterns = map[int]string{
	api.OpHas: `^`, api.OpIs: `^%s$`, api.OpWord: `(?:^|[ \t\n\f\r])%s(?:$|[ \t\n\f\r])`, api.OpDash: `^%s(?:$|-)`, api.OpBegin: `^%s`, api.OpEnd: `%s$`, api.OpPart: `%s`,
}

// lower gives a right text with small letters of ASCII.
func lower(s string) string {
	return strings.Map(func(r rune) rune {
		if r >= 'A' && r <= 'Z' {
			return r + 'a' - 'A'
		}
		return r
	}, s)
}

// pattern gives a condition as a pattern; nil, if it never holds. With Fold it is one of values with small letters.
func pattern(c api.Cond) *regexp.Regexp {
	p, ok := patterns[c.Op]
	some := c.Op == api.OpHas || c.Op == api.OpIs || c.Op == api.OpDash
	if !ok || !some && c.Text == "" || c.Op == api.OpWord && strings.ContainsAny(c.Text, " \t\n\f\r") {
		return nil
	}
	if c.Fold {
		c.Text = lower(c.Text)
	}
	return regexp.MustCompile(strings.ReplaceAll(p, "%s", regexp.QuoteMeta(c.Text)))
}

// matches tells by the words whether a condition, with its pattern, holds of a value.
func matches(c api.Cond, p *regexp.Regexp, s string) bool {
	if c.Fold {
		s = lower(s)
	}
	return p != nil && p.MatchString(s)
}

// rows gives all texts of up to some characters of an alphabet.
func rows(alphabet string, most int) []string {
	out, last := []string{""}, []string{""}
	for range most {
		var next []string
		for _, s := range last {
			for _, r := range alphabet {
				next = append(next, s+string(r))
			}
		}
		out, last = append(out, next...), next
	}
	return out
}

// conds gives conditions of all operators and some others, with all short texts.
func conds(alphabet string, most int) []api.Cond {
	var out []api.Cond
	for op := -1; op <= api.OpPart+1; op++ {
		for _, s := range rows(alphabet, most) {
			out = append(out, api.Cond{Op: op, Text: s}, api.Cond{Op: op, Text: s, Fold: true})
		}
	}
	return out
}

// P6.1, P6.2: all short texts, of all short values.
func TestHoldsByTheWords(t *testing.T) {
	for _, x := range []struct {
		alphabet   string
		text, most int
	}{{"aAb- \f", 2, 4}, {"ab-", 3, 5}, {"a\t\n\r\v", 2, 4}, {"é\u00c9k\u212a ", 1, 3}} {
		values := rows(x.alphabet, x.most)
		for _, c := range conds(x.alphabet, x.text) {
			p, some := pattern(c), false
			for _, s := range values {
				want := matches(c, p, s)
				some = some || want
				if got := value.Holds(c, s); got != want {
					t.Fatalf("%v of %q: %t", c, s, got)
				}
			}
			if value.Never(c) == some {
				t.Fatalf("%v: Never isn't %t", c, !some)
			}
			checkLeast(t, c, values)
		}
	}
}

// checkLeast holds Least against all values, the shorter ones ahead.
func checkLeast(t *testing.T, c api.Cond, values []string) {
	t.Helper()
	least, some := value.Least(c)
	first := slices.IndexFunc(values, func(s string) bool { return value.Holds(c, s) })
	switch {
	case first < 0:
		if some || least != "" {
			t.Fatalf("%v: Least is %q, %t", c, least, some)
		}
	case !some || !value.Holds(c, least) || len(least) != len(values[first]) || c.Op != api.OpHas && least != c.Text:
		t.Fatalf("%v: Least is %q, %t", c, least, some)
	}
}

// implies tells by the chapter's words whether one condition implies another one.
func implies(a, b api.Cond) bool {
	if pattern(a) == nil || b.Op == api.OpHas {
		return true
	}
	if a.Fold != b.Fold && !b.Fold {
		return false
	}
	if b.Fold {
		a.Text, b.Text = lower(a.Text), lower(b.Text)
	}
	ofText := matches(b, pattern(b), a.Text)
	among := func(op int, list ...int) bool { return slices.Contains(list, op) }
	return a.Op == api.OpIs && ofText ||
		a.Op == b.Op && among(a.Op, api.OpWord, api.OpDash) && a.Text == b.Text ||
		a.Op == b.Op && among(a.Op, api.OpBegin, api.OpEnd, api.OpPart) && ofText ||
		among(a.Op, api.OpWord, api.OpBegin, api.OpEnd) && b.Op == api.OpPart && ofText
}

// P6.3: all short conditions, two by two; and where one implies another one, each value of the one is one of the other one.
func TestImpliesByTheWords(t *testing.T) {
	for _, x := range []struct {
		alphabet   string
		text, most int
	}{{"aA- ", 2, 4}, {"ab", 3, 5}} {
		list, values := conds(x.alphabet, x.text), rows(x.alphabet, x.most)
		truths := make([][]bool, len(list))
		for i, c := range list {
			for _, s := range values {
				truths[i] = append(truths[i], value.Holds(c, s))
			}
		}
		for i, a := range list {
			for j, b := range list {
				got := value.Implies(a, b)
				if got != implies(a, b) {
					t.Fatalf("%v, %v: %t", a, b, got)
				}
				for k := range values {
					if got && truths[i][k] && !truths[j][k] {
						t.Fatalf("%v, %v: not of %q", a, b, values[k])
					}
				}
			}
		}
	}
}

// P6.4: nothing that is handed in is changed or kept; answers are new memory.
func TestMemory(t *testing.T) {
	list := []api.Cond{{Op: api.OpIs, Text: "A"}, {Op: api.OpWord, Text: "a", Fold: true}, {Op: api.OpHas}, {Op: api.OpEnd, Text: "b"}, {Op: api.OpHas}}
	before := slices.Clone(list)
	one, two := value.All(list[:3], "A b"), value.All(list[:3], "A b")
	if !slices.Equal(one, []bool{false, true, true}) || !slices.Equal(list, before) {
		t.Error(one, list)
	}
	one = one[:cap(one)]
	for i := range one {
		one[i] = false
	}
	if !slices.Equal(two, []bool{false, true, true}) || !slices.Equal(value.All(list[:3], "A b"), two) {
		t.Error("two answers share memory")
	}
}

// P6.4: texts' bytes stay as they are, and an answer stays when they are written over.
func TestMemoryOfTexts(t *testing.T) {
	for op := range api.OpPart + 2 {
		for _, fold := range []bool{false, true} {
			in, val := []byte("Ab"), []byte("x Ab-")
			c := api.Cond{Op: op, Text: unsafe.String(&in[0], len(in)), Fold: fold}
			least, some := value.Least(c)
			value.Holds(c, unsafe.String(&val[0], len(val)))
			value.Implies(c, api.Cond{Op: api.OpPart, Text: unsafe.String(&val[0], len(val)), Fold: true})
			if string(in) != "Ab" || string(val) != "x Ab-" {
				t.Errorf("%d: the argument was changed", op)
			}
			in[0], in[1] = '#', '#'
			if least2, some2 := value.Least(api.Cond{Op: op, Text: "Ab", Fold: fold}); least != least2 || some != some2 {
				t.Errorf("%d: the argument is kept: %q", op, least)
			}
		}
	}
}

// P1, P2: wild conditions and values end, without a panic, twice in the same way.
func TestWildTexts(t *testing.T) {
	bytes := make([]byte, 600)
	for i := range bytes {
		bytes[i] = byte(i * i >> 3)
	}
	ops := []int{-1 << 63, -1, 0, 1, 2, 3, 4, 5, 6, 7, 8, 1 << 32, 1<<63 - 1}
	for n := range len(bytes) - 2 {
		a := api.Cond{Op: ops[n%len(ops)], Text: string(bytes[n : n+n%3]), Fold: n%2 == 0}
		b := api.Cond{Op: ops[n/3%len(ops)], Text: string(bytes[n : n+n%2]), Fold: n%5 < 3}
		s := string(bytes[n/2:])
		if value.Holds(a, s) != value.Holds(a, strings.Clone(s)) || value.Implies(a, b) != value.Implies(a, b) || value.Never(a) != value.Never(a) {
			t.Errorf("%d: two answers", n)
		}
		least, some := value.Least(a)
		if some == value.Never(a) || some != value.Holds(a, a.Text) || some && !value.Holds(a, least) || !some && least != "" {
			t.Errorf("%v: %q, %t", a, least, some)
		}
		if value.Implies(a, b) && value.Holds(a, s) && !value.Holds(b, s) {
			t.Errorf("%v, %v: not of %q", a, b, s)
		}
	}
}

// P1: long texts end in time.
func TestLongTexts(t *testing.T) {
	long := strings.Repeat("a", 1<<20)
	words := strings.Repeat("a ", 1<<19)
	for op := range api.OpPart + 1 {
		for _, s := range []string{long, words} {
			c := api.Cond{Op: op, Text: s[:1<<19] + "b", Fold: true}
			if value.Holds(c, s) != (op == api.OpHas) {
				t.Errorf("%d", op)
			}
		}
	}
	if !value.Holds(api.Cond{Op: api.OpWord, Text: "b"}, words+"b") {
		t.Error("the last word")
	}
}
