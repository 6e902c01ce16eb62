package anb_test

import (
	"regexp"
	"testing"

	"wattle/anb"
	"wattle/api"
	"wattle/token"
)

type read struct{ a, b, used int }

// P4.2: the rows of the chapter, and the longest one of several.
func TestParse(t *testing.T) {
	for s, want := range map[string]read{
		"even": {2, 0, 1}, "EVEN": {2, 0, 1}, "odd": {2, 1, 1}, "oDd": {2, 1, 1}, `\65 ven`: {2, 0, 1}, "even+1": {2, 0, 1}, "odd -1": {2, 1, 1},
		"5": {0, 5, 1}, "+5": {0, 5, 1}, "-5": {0, -5, 1}, "0": {0, 0, 1}, "007": {0, 7, 1}, "5 + 1": {0, 5, 1}, "5 n": {0, 5, 1},
		"n": {1, 0, 1}, "N": {1, 0, 1}, "+n": {1, 0, 2}, "+N": {1, 0, 2}, "-n": {-1, 0, 1}, "-N": {-1, 0, 1}, "3n": {3, 0, 1}, "+3n": {3, 0, 1}, "-3N": {-3, 0, 1}, "0n": {0, 0, 1}, "-0n": {0, 0, 1}, "01n": {1, 0, 1},
		`\6e`: {1, 0, 1}, `-\6e`: {-1, 0, 1}, `2\6e`: {2, 0, 1}, "+/**/n": {1, 0, 2}, "n/**/": {1, 0, 1},
		"n+1": {1, 1, 2}, "n-1": {1, -1, 1}, "n +1": {1, 1, 3}, "n -1": {1, -1, 3}, "2n+1": {2, 1, 2}, "2n+0": {2, 0, 2}, "-2n-0": {-2, 0, 1}, "+n+1": {1, 1, 3}, "-n+3": {-1, 3, 2}, "n/**/+1": {1, 1, 2}, "n/**/ /**/ -1": {1, -1, 4},
		"n + 1": {1, 1, 5}, "n+ 1": {1, 1, 4}, "n - 1": {1, -1, 5}, "2n + 1": {2, 1, 5}, "2n \t\n- 13": {2, -13, 5}, "2n+/**/1": {2, 1, 3}, "2n +/**/1": {2, 1, 4}, "+n + 1": {1, 1, 6}, "-n - 1": {-1, -1, 5}, "2n - 007": {2, -7, 5},
		"n- 1": {1, -1, 3}, "-n- 1": {-1, -1, 3}, "+n- 1": {1, -1, 4}, "2n- 1": {2, -1, 3}, "-2N- 0": {-2, 0, 3}, "n-/**/1": {1, -1, 2}, "2n-/**/1": {2, -1, 2},
		"n-7": {1, -7, 1}, "-n-7": {-1, -7, 1}, "+n-7": {1, -7, 2}, "2n-7": {2, -7, 1}, "2N-007": {2, -7, 1}, `n\-7`: {1, -7, 1}, `2n-\31 2`: {2, -12, 1}, "n-1+1": {1, -1, 1}, "n-1 2": {1, -1, 1},
		" \n n": {1, 0, 2}, " even ": {2, 0, 2}, "/**/ /**/ 5": {0, 5, 3}, " 2n + 1 ": {2, 1, 6}, " +n": {1, 0, 3},
		"n x": {1, 0, 1}, "n + x": {1, 0, 1}, "n +": {1, 0, 1}, "n ": {1, 0, 1}, "n+": {1, 0, 1}, "n + +1": {1, 0, 1}, "n + -1": {1, 0, 1}, "n 1": {1, 0, 1}, "n +1.5": {1, 0, 1}, "n + 1.5": {1, 0, 1}, "n+1e3": {1, 0, 1}, "n + 1e3": {1, 0, 1}, "n+1x": {1, 0, 1}, "n+1%": {1, 0, 1}, "n * 1": {1, 0, 1}, "n n": {1, 0, 1}, "n + n": {1, 0, 1}, "n +n": {1, 0, 1}, "n,1": {1, 0, 1}, "n '+' 1": {1, 0, 1}, `n \- 1`: {1, 0, 1}, "n+'1'": {1, 0, 1}, "n #1": {1, 0, 1}, "n + /**/ ": {1, 0, 1}, "2n of a": {2, 0, 1}, "2n)": {2, 0, 1},
	} {
		checkParse(t, s, want)
	}
}

func checkParse(t *testing.T, s string, want read) {
	t.Helper()
	list := token.Read([]byte(s))
	for _, part := range [][]api.Token{list, list[:len(list)-1]} {
		a, b, used, err := anb.Parse(part)
		if got := (read{a, b, used}); got != want || err != nil {
			t.Errorf("%q: %v, %v, not %v", s, got, err, want)
		}
	}
}

// P4.2: what begins with no row.
func TestParseNone(t *testing.T) {
	for _, s := range []string{
		"", " ", "x", "eve", "evenn", "odds", "even(", "#even", "'even'", "odd(", "@odd", "'odd'", "n(", "#n", "@n", "'n'", "url(n)", ",n", "-n(", "#-n", "'-n'", "#-n-1", "'+'n", `\+n`, "'+n'", "+#n", "+'n'", "+n(", "+", "-", "+ n", "- n", "+", "+-n", "-+n", "--n", "+ 5", "- 5", "+\n", "-/**/n",
		"+x", "+even", "+odd", "1.5", "5.0", "1e3", "1.5n", "1e3n", ".5n", "5%", "5x", "5even", "nn", "2nn", "n_", "xn", "3xn", "3-n", "3-n-1", "3e", "*n", "+*", "++n", "+5.5",
		"n-", "-n-", "+n-", "2n-", "n-x", "n- x", "n- ", "n- -1", "n- +1", "n--1", "n--", "n- - 1", "n-1x", "2n-1x", "n-1-", "n-+", "n- 1.5", "n- 1e3", "n- n", `n\+1`, `2n\+1`, `n1`, `n\31`, "+n-x", "-n--1",
	} {
		list := token.Read([]byte(s))
		for _, part := range [][]api.Token{list, list[:len(list)-1]} {
			a, b, used, err := anb.Parse(part)
			if got := (read{a, b, used}); got != (read{}) || !isFault(err, api.ErrForm) {
				t.Errorf("%q: %v, %v", s, got, err)
			}
		}
	}
	if a, b, used, err := anb.Parse(nil); a != 0 || b != 0 || used != 0 || !isFault(err, api.ErrForm) {
		t.Error(err)
	}
}

// P4.2: numbers that are over, in each of the rows; a shorter row that isn't over is none.
func TestParseOver(t *testing.T) {
	for s, want := range map[string]read{
		"2147483647": {0, api.MaxAB, 1}, "-2147483647": {0, -api.MaxAB, 1}, "2147483647n": {api.MaxAB, 0, 1}, "-2147483647n": {-api.MaxAB, 0, 1},
		"n+2147483647": {1, api.MaxAB, 2}, "n - 2147483647": {1, -api.MaxAB, 5}, "n- 2147483647": {1, -api.MaxAB, 3}, "n-2147483647": {1, -api.MaxAB, 1}, "n 2147483648": {1, 0, 1},
		"even 2147483648": {2, 0, 1}, "n + 2147483648x": {1, 0, 1}, "n+2147483648.5": {1, 0, 1},
	} {
		checkParse(t, s, want)
	}
	for _, s := range []string{
		"2147483648", "+2147483648", "-2147483648", " 99999999999999999999", "2147483648n", "-2147483648n", "+99999999999999999999n", "2147483648n + x", "2147483648n-1",
		"n+2147483648", "n-2147483648", "n -2147483648", "n + 2147483648", "n - 2147483648", "2n- 2147483648", "2n-99999999999999999999", "+n-2147483648", "-n- 18446744073709551617", "2147483648n+2147483648", "2147483648n+1", "5n + 99999999999999999999",
	} {
		a, b, used, err := anb.Parse(token.Read([]byte(s)))
		if got := (read{a, b, used}); got != (read{}) || !isFault(err, api.ErrOver) {
			t.Errorf("%q: %v, %v", s, got, err)
		}
	}
}

// pieces are tokens, each with a letter for it in patterns.
func pieces() map[byte]api.Token {
	one := func(s string) api.Token { return token.Read([]byte(s))[0] }
	return map[byte]api.Token{
		's': one(" "), 'P': one("+"), 'M': one("-"), 'D': one("8"), 'S': one("+7"), 'T': one("-9"), 'F': one("+1.5"), 'G': one("1e3"),
		'n': one("N"), 'm': one("-n"), 'd': one("3n"), 'a': one("n-"), 'b': one("-N-"), 'c': one("-4n-"),
		'x': one("n-5"), 'y': one("-n-6"), 'z': one("5N-7"), 'e': one("Even"), 'o': one("odd"), '_': one("nx"), 'w': one("1.5n"), 'p': one("7%"), 'E': one(""), 'f': one("n("),
	}
}

var (
	rowPattern = regexp.MustCompile(`^s*(e|o|[DST]|((?:Pn|[nmd])(s*[ST]|s*[PM]s*D)?)|((?:Pa|[abc])s*D)|(Px|[xyz]))`)
	heads      = map[byte]int{'n': 1, 'm': -1, 'd': 3, 'a': 1, 'b': -1, 'c': -4, 'x': 1, 'y': -1, 'z': 5}
	numbers    = map[byte]int{'D': 8, 'S': 7, 'T': -9, 'x': -5, 'y': -6, 'z': -7}
)

// words gives what the row of letters tells by the patterns.
func words(row string) (read, bool) {
	m := rowPattern.FindString(row)
	if m == "" {
		return read{}, false
	}
	out, minus := read{used: len(m)}, false
	for _, c := range []byte(m) {
		switch {
		case c == 'e':
			out.a = 2
		case c == 'o':
			out.a, out.b = 2, 1
		case heads[c] != 0:
			out.a = heads[c]
		}
		if numbers[c] != 0 {
			out.b = numbers[c]
		}
		minus = minus || c == 'M' || c == 'a' || c == 'b' || c == 'c'
	}
	if minus {
		out.b = -out.b
	}
	return out, true
}

// P4.2: all short rows of tokens.
func TestParseByTheWords(t *testing.T) {
	tokens := pieces()
	var try func(row string, list []api.Token, letters string, most int)
	try = func(row string, list []api.Token, letters string, most int) {
		want, ok := words(row)
		a, b, used, err := anb.Parse(list)
		if got := (read{a, b, used}); got != want || ok != (err == nil) || !ok && !isFault(err, api.ErrForm) {
			t.Fatalf("%s: %v, %v, not %v", row, got, err, want)
		}
		if len(row) == most {
			return
		}
		for _, c := range []byte(letters) {
			try(row+string(rune(c)), append(list[:len(list):len(list)], tokens[c]), letters, most)
		}
	}
	try("", nil, "sPMDSTFGnmdabcxyzeo_wpEf", 4)
	try("", nil, "sPMDSna", 6)
}

// P4.2: numbers are those that are Whole, and whose text is a number's, also where layer 3 would give no such token.
func TestParseOfOtherTokens(t *testing.T) {
	for _, x := range []api.Token{{Number: "5"}, {Number: "x", Whole: true}, {Number: "", Whole: true}, {Number: "1.5", Whole: true}, {Number: "99999999999999999999x", Whole: true}} {
		for _, kind := range []int{api.TokNumber, api.TokDimension} {
			x.Kind, x.Text = kind, "n"
			if a, b, used, err := anb.Parse([]api.Token{x}); (read{a, b, used}) != (read{}) || !isFault(err, api.ErrForm) {
				t.Errorf("%v: %d, %d, %d, %v", x, a, b, used, err)
			}
		}
	}
}

// P1, P2: tokens that layer 3 doesn't give: Parse ends, and answers zeros beside an error.
func TestWildTokens(t *testing.T) {
	var tokens []api.Token
	for kind := -1; kind <= api.TokCloseCurly+1; kind++ {
		for _, text := range []string{"", "+", "-", "n", "-n", "n-", "-n-", "n-1", "n--", "\xff"} {
			for _, number := range []string{"", "+", "-", "1", "-1", "1.5", "\xff", "99999999999999999999", "99999999999999999999x"} {
				tokens = append(tokens, api.Token{Kind: kind, From: -5, To: -9, Text: text, Number: number, Whole: true}, api.Token{Kind: kind, Text: text, Number: number})
			}
		}
	}
	for i, x := range tokens {
		for step := 1; step < len(tokens); step += 97 {
			list := []api.Token{x, tokens[(i+step)%len(tokens)], tokens[(i+7*step)%len(tokens)], tokens[(i+31*step)%len(tokens)]}
			a, b, used, err := anb.Parse(list)
			a2, b2, used2, _ := anb.Parse(list)
			if a != a2 || b != b2 || used != used2 || err != nil && (read{a, b, used}) != (read{}) || err == nil && (used < 1 || used > len(list)) {
				t.Fatalf("%v: %d, %d, %d, %v", list, a, b, used, err)
			}
		}
	}
}
