package solve_test

import (
	"errors"
	"math"
	"strconv"
	"strings"
	"testing"

	"wattle/api"
	"wattle/solve"
)

const (
	has, is, word, dash = api.OpHas, api.OpIs, api.OpWord, api.OpDash
	begin, end, part    = api.OpBegin, api.OpEnd, api.OpPart

	enough = 1 << 40
)

// cond gives a condition that takes letters as they are; alike one that takes great and small ones as one.
func cond(op int, text string) api.Cond { return api.Cond{Op: op, Text: text} }

func alike(op int, text string) api.Cond { return api.Cond{Op: op, Text: text, Fold: true} }

// told gives rows as a text: each with its value, and a 1 or 0 for each truth.
func told(rows []api.Vector) string {
	var out []string
	for _, v := range rows {
		s := strconv.QuoteToASCII(v.Value) + ":"
		if v.Absent {
			s = "absent" + v.Value + ":"
		}
		for _, truth := range v.Holds {
			s += map[bool]string{true: "1", false: "0"}[truth]
		}
		out = append(out, s)
	}
	return strings.Join(out, " ")
}

// isFault tells whether an error is a Fault of a kind at a place.
func isFault(err error, kind api.Errno, at int) bool {
	f, ok := err.(*api.Fault)
	return ok && f.Kind == kind && f.At == at && errors.Is(err, kind)
}

// P7.2: each operator alone, and conditions that hold of no value.
func TestSolveOfOne(t *testing.T) {
	for i, x := range []struct {
		c    api.Cond
		want string
	}{
		{cond(has, ""), `absent:0 "":1`}, {cond(has, "a"), `absent:0 "":1`}, {alike(has, "\x01"), `absent:0 "":1`},
		{cond(is, ""), `absent:0 "":1`}, {cond(is, "a"), `absent:0 "a":1`}, {cond(is, "Ab c"), `absent:0 "Ab c":1`}, {alike(is, "aB-é"), `absent:0 "AB-\u00e9":1`}, {cond(is, "\ufeff\U0010ffff"), `absent:0 "\ufeff\U0010ffff":1`},
		{cond(word, "ab"), `absent:0 "ab":1`}, {alike(word, "ab"), `absent:0 "AB":1`}, {cond(word, "a\vb"), `absent:0 "a\vb":1`},
		{cond(word, ""), `absent:0`}, {cond(word, "a b"), `absent:0`}, {cond(word, " "), `absent:0`}, {cond(word, "a\t"), `absent:0`}, {cond(word, "\na"), `absent:0`}, {cond(word, "a\fb"), `absent:0`}, {cond(word, "\r"), `absent:0`}, {alike(word, "A B"), `absent:0`},
		{cond(dash, ""), `absent:0 "":1`}, {cond(dash, "en"), `absent:0 "en":1`}, {alike(dash, "en"), `absent:0 "EN":1`}, {cond(dash, "-"), `absent:0 "-":1`},
		{cond(begin, ""), `absent:0`}, {cond(begin, "ab"), `absent:0 "ab":1`}, {alike(begin, "b"), `absent:0 "B":1`}, {cond(begin, " "), `absent:0 " ":1`},
		{cond(end, ""), `absent:0`}, {cond(end, "aba"), `absent:0 "aba":1`}, {alike(end, "aB"), `absent:0 "AB":1`},
		{cond(part, ""), `absent:0`}, {cond(part, "aab"), `absent:0 "aab":1`}, {alike(part, "é"), `absent:0 "\u00e9":1`},
		{cond(0, "a"), `absent:0`}, {cond(8, "a"), `absent:0`}, {cond(-1, ""), `absent:0`}, {alike(1<<32+1, "a"), `absent:0`}, {cond(math.MinInt, ""), `absent:0`},
	} {
		rows, steps, err := solve.Solve([]api.Cond{x.c}, enough)
		if told(rows) != x.want || err != nil || steps > solve.Bound([]api.Cond{x.c}) {
			t.Errorf("%d: %s, %d, %v", i, told(rows), steps, err)
		}
	}
}

// P7.2: no conditions, and some together.
func TestSolveOfSome(t *testing.T) {
	for i, x := range []struct {
		list []api.Cond
		want string
	}{
		{nil, `absent:`}, {[]api.Cond{}, `absent:`},
		{[]api.Cond{cond(is, "a"), cond(begin, "b")}, `absent:00 "a":10 "b":01`},
		{[]api.Cond{cond(is, "a"), cond(is, "a")}, `absent:00 "a":11`}, {[]api.Cond{cond(is, "b"), cond(is, "a")}, `absent:00 "a":01 "b":10`},
		{[]api.Cond{cond(has, ""), cond(is, "")}, `absent:00 "":11 " ":10`}, {[]api.Cond{cond(has, ""), cond(has, "")}, `absent:00 "":11`},
		{[]api.Cond{cond(has, ""), cond(word, ""), cond(9, "")}, `absent:000 "":100`}, {[]api.Cond{cond(part, ""), cond(word, " ")}, `absent:00`},
		// Letters that are alike.
		{[]api.Cond{cond(is, "a"), alike(is, "a")}, `absent:00 "A":01 "a":11`}, {[]api.Cond{alike(is, "a"), cond(is, "A")}, `absent:00 "A":11 "a":10`}, {[]api.Cond{alike(is, "a"), alike(is, "A")}, `absent:00 "A":11`},
		{[]api.Cond{cond(is, "a"), cond(is, "A")}, `absent:00 "A":01 "a":10`}, {[]api.Cond{cond(part, "a"), cond(part, "A")}, `absent:00 "A":01 "a":10 "Aa":11`}, {[]api.Cond{cond(part, "a"), alike(part, "A")}, `absent:00 "A":01 "a":11`},
		{[]api.Cond{alike(part, "b"), cond(part, "a")}, `absent:00 "B":10 "a":01 "Ba":11`}, {[]api.Cond{alike(begin, "ab"), cond(begin, "aB")}, `absent:00 "AB":10 "aB":11`}, {[]api.Cond{alike(is, "É"), cond(is, "é")}, `absent:00 "\u00c9":10 "\u00e9":01`}, {[]api.Cond{alike(is, "k"), cond(is, "\u212a")}, `absent:00 "K":10 "\u212a":01`}, {[]api.Cond{alike(is, "@["), cond(is, "`{")}, "absent:00 \"@[\":10 \"`{\":01"},
		{[]api.Cond{alike(word, "a"), cond(end, "B")}, `absent:00 "A":10 "B":01 "A B":11`}, {[]api.Cond{alike(dash, "A"), cond(end, "-b")}, `absent:00 "A":10 "-b":01 "A-b":11`}, {[]api.Cond{alike(end, "aa"), cond(begin, "a")}, `absent:00 "a":01 "AA":10 "aA":11`},
		// Words, and blanks in texts.
		{[]api.Cond{cond(word, "a"), cond(word, "b")}, `absent:00 "a":10 "b":01 "a b":11`}, {[]api.Cond{cond(word, "b"), cond(word, "a"), cond(word, "ab")}, `absent:000 "a":010 "b":100 "ab":001 "a b":110 "a ab":011 "ab b":101 "a ab b":111`},
		{[]api.Cond{cond(word, "a"), cond(part, " ")}, `absent:00 " ":01 "a":10 " a":11`}, {[]api.Cond{cond(word, "a"), cond(word, "b"), cond(part, " ")}, `absent:000 " ":001 "a":100 "b":010 " a":101 " b":011 "a\tb":110 "a b":111`}, {[]api.Cond{cond(word, "a"), cond(end, "\t"), cond(is, "\n a\r")}, `absent:000 "\t":010 "a":100 "a\t":110 "\n a\r":101`},
		{[]api.Cond{cond(word, "a"), cond(begin, "a"), cond(end, "a"), cond(is, "a")}, `absent:0000 "a":1111 " a":1010 "-a":0010 "a ":1100 "a-":0100 "aa":0110 " a ":1000 "a a":1110`}, {[]api.Cond{cond(word, "a-"), cond(dash, "a")}, `absent:00 "a":01 "a-":11 " a-":10`},
		{[]api.Cond{cond(word, "a"), cond(end, "\f")}, `absent:00 "\f":01 "a":10 "a\f":11`}, {[]api.Cond{cond(word, "a"), cond(end, "\r")}, `absent:00 "\r":01 "a":10 "a\r":11`}, {[]api.Cond{cond(word, "a"), cond(end, "\n")}, `absent:00 "\n":01 "a":10 "a\n":11`}, {[]api.Cond{cond(word, "a"), cond(end, "\v")}, `absent:00 "\v":01 "a":10 "a \v":11`}, {[]api.Cond{cond(word, "a"), cond(end, "\u00a0")}, `absent:00 "a":10 "\u00a0":01 "a \u00a0":11`},
		// Beginnings, ends, parts.
		{[]api.Cond{cond(begin, "ab"), cond(end, "ba")}, `absent:00 "ab":10 "ba":01 "aba":11`}, {[]api.Cond{cond(begin, "ab"), cond(end, "bc"), cond(is, "abc")}, `absent:000 "ab":100 "bc":010 "abc":111 "abbc":110`}, {[]api.Cond{cond(begin, "a"), cond(begin, "ab"), cond(begin, "b")}, `absent:000 "a":100 "b":001 "ab":110`},
		{[]api.Cond{cond(end, "aa"), cond(part, "aa")}, `absent:00 "aa":11 "aa ":01`}, {[]api.Cond{cond(end, "aab"), cond(end, "b"), cond(part, "aaa")}, `absent:000 "b":010 "aaa":001 "aab":110 "aaab":111 "aaa b":011`}, {[]api.Cond{cond(part, "aa"), cond(part, "ab")}, `absent:00 "aa":10 "ab":01 "aab":11`}, {[]api.Cond{cond(part, "abab"), cond(end, "abac")}, `absent:00 "abab":10 "abac":01 "ababac":11`}, {[]api.Cond{cond(part, "ab"), cond(part, "ba"), cond(is, "b")}, `absent:000 "b":001 "ab":100 "ba":010 "aba":110`},
		// What begins with a text and a -.
		{[]api.Cond{cond(dash, "en"), cond(is, "en")}, `absent:00 "en":11 "en-":10`}, {[]api.Cond{cond(dash, "en"), cond(begin, "en")}, `absent:00 "en":11 "en ":01`}, {[]api.Cond{cond(dash, "en"), cond(dash, "en-")}, `absent:00 "en":10 "en-":11`}, {[]api.Cond{cond(dash, ""), cond(is, "")}, `absent:00 "":11 "-":10`}, {[]api.Cond{cond(dash, ""), cond(dash, "-"), cond(dash, "--a")}, `absent:000 "":100 "-":110 "--a":111`}, {[]api.Cond{cond(dash, "a"), cond(end, "b")}, `absent:00 "a":10 "b":01 "a-b":11`},
	} {
		rows, steps, err := solve.Solve(x.list, enough)
		if told(rows) != x.want || err != nil || steps > solve.Bound(x.list) {
			t.Errorf("%d: %s, %d, %v", i, told(rows), steps, err)
		}
	}
}
