package blocks_test

import (
	"fmt"
	"strings"

	"wattle/api"
	"wattle/token"
)

// letters are those that a row of tokens may be told by; E is a TokEnd, wherever it stands.
const letters = " ;:{}()[]fas@M!iI,<>\"1E"

// pieces are the tokens that letters stand for.
func pieces() map[rune]api.Token {
	out := map[rune]api.Token{'E': {Kind: api.TokEnd}}
	for letter, s := range map[rune]string{
		'f': "F(", 'a': "A", 's': "--S", '@': "@N", 'M': "@--M", 'i': "important", 'I': "imPORTANT", '<': "<!--", '>': "-->", '"': "'important'",
	} {
		out[letter] = token.Read([]byte(s))[0]
	}
	for _, letter := range letters {
		if _, ok := out[letter]; !ok {
			out[letter] = token.Read([]byte(string(letter)))[0]
		}
	}
	return out
}

var pieceOf = pieces()

// row gives the tokens of letters.
func row(s string) []api.Token {
	var out []api.Token
	for _, letter := range s {
		t, ok := pieceOf[letter]
		if !ok {
			panic("no token has that letter")
		}
		out = append(out, t)
	}
	return out
}

// read gives the tokens of a text, with the end.
func read(s string) []api.Token { return token.Read([]byte(s)) }

// tellRules tells rules in a line.
func tellRules(list []api.Rule) string {
	var out []string
	for _, r := range list {
		name, block := "", ""
		if r.At || r.Name != "" {
			name = fmt.Sprintf("@%s ", r.Name)
		}
		if r.HasBlock || r.Open != 0 || r.End != 0 {
			block = fmt.Sprintf(" {%d-%d}", r.Open, r.End)
		}
		out = append(out, fmt.Sprintf("%s%d-%d%s", name, r.From, r.To, block))
	}
	return strings.Join(out, "; ")
}

// tellDecls tells declarations in a line.
func tellDecls(list []api.Decl) string {
	var out []string
	for _, d := range list {
		mark := ""
		if d.Important {
			mark = "!"
		}
		out = append(out, fmt.Sprintf("%s %d-%d%s", d.Name, d.From, d.To, mark))
	}
	return strings.Join(out, "; ")
}

func number(n int) string { return fmt.Sprint(n) }
