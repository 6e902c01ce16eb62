package blocks_test

import (
	"slices"
	"strings"
	"testing"

	"wattle/api"
	"wattle/blocks"
	"wattle/chars"
)

// The chapter's words, to hold the program against. A part is told as its list cut off where the part ends, and the place where it begins.

func part(list []api.Token, from, to int) ([]api.Token, int) {
	if from < 0 {
		from = 0
	}
	if to > len(list) {
		to = len(list)
	}
	if from >= to {
		return nil, from
	}
	for i, t := range list[from:to] {
		if t.Kind == api.TokEnd {
			return list[:from+i], from
		}
	}
	return list[:to], from
}

// component gives the place behind the component value at a place, at which a token stands.
func component(list []api.Token, at int) int {
	closes := map[int]int{api.TokOpen: api.TokClose, api.TokFunction: api.TokClose, api.TokOpenSquare: api.TokCloseSquare, api.TokOpenCurly: api.TokCloseCurly}
	closing, ok := closes[list[at].Kind]
	at++
	for ok && at < len(list) {
		if list[at].Kind == closing {
			return at + 1
		}
		at = component(list, at)
	}
	return at
}

// ends gives the places behind a place that component values which stand there reach, one after another; the first one is the place itself.
func ends(list []api.Token, at int) []int {
	out := []int{at}
	for at < len(list) {
		at = component(list, at)
		out = append(out, at)
	}
	return out
}

// firstOf gives the first of some places at which a token of one of some kinds stands, or the end.
func firstOf(list []api.Token, places []int, kinds string) int {
	for _, at := range places {
		if at < len(list) && isOne(list[at], kinds) {
			return at
		}
	}
	return len(list)
}

// isOne tells whether a token is one of those that letters stand for, by its Kind.
func isOne(t api.Token, some string) bool {
	for _, letter := range some {
		if pieceOf[letter].Kind == t.Kind {
			return true
		}
	}
	return false
}

// oneRule gives the rule that begins at a place, and the place behind it.
func oneRule(list []api.Token, at int) (r api.Rule, ok bool, next int) {
	kinds := "{"
	if isOne(list[at], "@") {
		r.At, r.Name = true, chars.Lower(list[at].Text)
		at++
		kinds = "{;"
	}
	r.From = at
	r.To = firstOf(list, ends(list, at), kinds)
	switch {
	case r.To == len(list):
		return r, r.At, r.To
	case isOne(list[r.To], ";"):
		return r, true, r.To + 1
	}
	r.HasBlock, r.Open = true, r.To+1
	inside := ends(list, r.Open)
	r.End = firstOf(list, inside, "}")
	return r, true, component(list, r.To)
}

func rulesByWords(list []api.Token, from, to int, top bool) []api.Rule {
	passed := " "
	if top {
		passed = " <>"
	}
	var out []api.Rule
	list, at := part(list, from, to)
	for at < len(list) {
		if isOne(list[at], passed) {
			at++
			continue
		}
		r, ok, next := oneRule(list, at)
		if ok {
			out = append(out, r)
		}
		at = next
	}
	return out
}

func declsByWords(list []api.Token, from, to int) []api.Decl {
	var out []api.Decl
	list, at := part(list, from, to)
	for at < len(list) {
		switch {
		case isOne(list[at], " ;"):
			at++
		case isOne(list[at], "@"):
			_, _, at = oneRule(list, at)
		default:
			end := firstOf(list, ends(list, at), ";")
			if d, ok := declByWords(list[:end], at); ok {
				out = append(out, d)
			}
			at = end
		}
	}
	return out
}

// solid gives the places from a place on where no blanks stand.
func solid(list []api.Token, from int) []int {
	var out []int
	for at := from; at < len(list); at++ {
		if !isOne(list[at], " ") {
			out = append(out, at)
		}
	}
	return out
}

func declByWords(list []api.Token, at int) (d api.Decl, ok bool) {
	all := solid(list, at)
	if len(all) < 2 || !isOne(list[at], "a") || !isOne(list[all[1]], ":") {
		return d, false
	}
	d.Name = list[at].Text
	if !strings.HasPrefix(d.Name, "--") {
		d.Name = chars.Lower(d.Name)
	}
	value := all[2:]
	if n := len(value); n >= 2 {
		a, b := list[value[n-2]], list[value[n-1]]
		d.Important = isOne(a, "!") && a.Text == "!" && isOne(b, "i") && chars.Lower(b.Text) == "important"
	}
	begin := all[1] + 1
	if len(value) > 0 {
		begin = value[0]
	}
	if d.Important {
		value = value[:len(value)-2]
	}
	d.From, d.To = begin, begin
	if len(value) > 0 {
		d.To = value[len(value)-1] + 1
	}
	return d, true
}

func trimByWords(list []api.Token, from, to int) (int, int) {
	list, at := part(list, from, to)
	all := solid(list, at)
	if len(all) == 0 {
		return at, at
	}
	return all[0], all[len(all)-1] + 1
}

func valueByWords(list []api.Token, at, to int) int {
	list, begin := part(list, at, to)
	if begin >= len(list) {
		return at
	}
	return component(list, begin)
}

// checkWords holds all calls against the words, and tells whether they agree.
func checkWords(t *testing.T, s string, list []api.Token, from, to int) bool {
	ok := true
	for _, top := range []bool{false, true} {
		if got, want := blocks.Rules(list, from, to, top), rulesByWords(list, from, to, top); !slices.Equal(got, want) {
			t.Errorf("rules of %q, %d to %d, %t: %s, not %s", s, from, to, top, tellRules(got), tellRules(want))
			ok = false
		}
	}
	if got, want := blocks.Decls(list, from, to), declsByWords(list, from, to); !slices.Equal(got, want) {
		t.Errorf("declarations of %q, %d to %d: %s, not %s", s, from, to, tellDecls(got), tellDecls(want))
		ok = false
	}
	if got, want := blocks.Value(list, from, to), valueByWords(list, from, to); got != want {
		t.Errorf("value of %q, %d to %d: %d, not %d", s, from, to, got, want)
		ok = false
	}
	a, b := blocks.Trim(list, from, to)
	if c, d := trimByWords(list, from, to); a != c || b != d {
		t.Errorf("%q trimmed, %d to %d: %d, %d, not %d, %d", s, from, to, a, b, c, d)
		ok = false
	}
	return ok
}

// P19.1: all short rows of tokens.
func TestShortRows(t *testing.T) {
	const most = 4
	shorter := []string{""}
	for range most {
		var rows []string
		for _, s := range shorter {
			for _, letter := range letters {
				rows = append(rows, s+string(letter))
			}
		}
		for _, s := range rows {
			if !checkWords(t, s, row(s), 0, len(s)) {
				return
			}
		}
		shorter = rows
	}
}

// P19.1: longer rows, and parts of them.
func TestLongRows(t *testing.T) {
	seed := uint64(1)
	pick := func(n int) int {
		seed = seed*6364136223846793005 + 1442695040888963407
		return int(seed>>33) % n
	}
	// Rows of few kinds, so that these meet often.
	for _, some := range []string{letters, " ;:{}()[]fa@!i", " ;:{}a", "{}()a", ";a:!i ", " a:;!i{}E", "@a;{} <>", "a{([])};", " :;a@M{}(!I1\""} {
		for range 30000 {
			var s strings.Builder
			for range pick(24) {
				s.WriteByte(some[pick(len(some))])
			}
			list := row(s.String())
			from, to := pick(len(list)+4)-2, pick(len(list)+4)-2
			if pick(2) == 0 {
				from, to = 0, len(list)
			}
			if !checkWords(t, s.String(), list, from, to) {
				return
			}
		}
	}
}
