package blocks

import (
	"strings"

	"wattle/api"
	"wattle/chars"
)

// declaration gives the declaration that a part is, if it is one.
func declaration(list []api.Token, from, to int) (api.Decl, bool) {
	r := newReader(list, from, to)
	if !r.take(api.TokIdent) {
		return api.Decl{}, false
	}
	r.pass(api.TokSpace)
	if !r.take(api.TokColon) {
		return api.Decl{}, false
	}
	out := api.Decl{Name: property(list[from].Text)}
	out.From, out.To = Trim(list, r.at, to)
	if mark, ok := importance(list, out.From, out.To); ok {
		out.Important = true
		out.From, out.To = Trim(list, out.From, mark)
	}
	return out, true
}

// property gives a property's name. In those that anybody may make, great and small letters are two.
func property(name string) string {
	if strings.HasPrefix(name, "--") {
		return strings.Clone(name)
	}
	return chars.Lower(name)
}

// importance gives the place of the ! of a value that ends with !important. (Blanks don't stand around the value.)
func importance(list []api.Token, from, to int) (int, bool) {
	_, end := Trim(list, from, to-1)
	mark := end - 1
	if mark < from || !isMark(list[mark]) || !isImportant(list[to-1]) {
		return 0, false
	}
	return mark, true
}

func isMark(t api.Token) bool { return t.Kind == api.TokDelim && t.Text == "!" }

func isImportant(t api.Token) bool {
	return t.Kind == api.TokIdent && chars.Same(t.Text, "important")
}
