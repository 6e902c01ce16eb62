package sheet

import (
	"strings"

	"wattle/api"
	"wattle/blocks"
	"wattle/chars"
)

// Text gives a part of tokens as a text.
func Text(list []api.Token, from, to int) string {
	from, to = blocks.Trim(list, from, to)
	var out strings.Builder
	for at := from; at < to; at++ {
		if at > from {
			out.WriteString(between(list[at-1], list[at]))
		}
		out.WriteString(written(list[at]))
	}
	return out.String()
}

// between gives what stands between two tokens' texts. Of blanks each is written by what comes behind it, so that of several there is one.
func between(a, b api.Token) string {
	switch {
	case b.Kind == api.TokSpace, a.Kind == api.TokFunction:
		return ""
	case a.Kind == api.TokSpace:
		return " "
	}
	return "/**/"
}

// written gives a token's text; of blanks none, since between gives it.
func written(t api.Token) string {
	switch t.Kind {
	case api.TokSpace:
		return ""
	case api.TokIdent:
		return chars.Ident(t.Text)
	case api.TokFunction:
		return chars.Ident(t.Text) + "("
	case api.TokAt:
		return "@" + chars.Ident(t.Text)
	case api.TokHash:
		return "#" + chars.Ident(t.Text)
	case api.TokString:
		return chars.Quote(t.Text)
	case api.TokURL:
		return "url(" + chars.Ident(t.Text) + ")"
	case api.TokNumber:
		return t.Number
	case api.TokPercent:
		return t.Number + "%"
	case api.TokDimension:
		return t.Number + chars.Ident(t.Text)
	case api.TokDelim:
		return delim(t.Text)
	}
	return sign(t.Kind)
}

// delim gives the text of a TokDelim. A \ is one just where a line ends behind it.
func delim(text string) string {
	if text == `\` {
		return "\\\n"
	}
	return text
}

// sign gives the text of the tokens of a kind that have one text for all.
func sign(kind int) string {
	switch kind {
	case api.TokBadString:
		return "\"\n"
	case api.TokBadURL:
		return "url(()"
	case api.TokCDO:
		return "<!--"
	case api.TokCDC:
		return "-->"
	case api.TokColon:
		return ":"
	case api.TokSemicolon:
		return ";"
	case api.TokComma:
		return ","
	case api.TokOpenSquare:
		return "["
	case api.TokCloseSquare:
		return "]"
	case api.TokOpen:
		return "("
	case api.TokClose:
		return ")"
	case api.TokOpenCurly:
		return "{"
	case api.TokCloseCurly:
		return "}"
	}
	return "?"
}
