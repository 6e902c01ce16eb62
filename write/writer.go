package write

import (
	"strings"

	"wattle/anb"
	"wattle/api"
	"wattle/chars"
)

// writer is the one text that all parts are written into: parts within one another made each by itself would be copied again and again.
type writer struct{ strings.Builder }

// operators stand at their numbers.
var operators = [...]string{api.OpIs: "=", api.OpWord: "~=", api.OpDash: "|=", api.OpBegin: "^=", api.OpEnd: "$=", api.OpPart: "*="}

// put writes texts one behind the other.
func (w *writer) put(texts ...string) {
	for _, s := range texts {
		w.WriteString(s)
	}
}

func (w *writer) list(list []api.Complex) {
	for i, c := range list {
		if i > 0 {
			w.put(", ")
		}
		w.complex(c)
	}
}

func (w *writer) complex(c api.Complex) {
	for i, part := range c.List {
		if i > 0 {
			w.put(combinator(part.Comb))
		}
		for _, s := range part.List {
			w.simple(s)
		}
	}
}

func combinator(comb int) string {
	switch comb {
	case api.CombChild:
		return " > "
	case api.CombNext:
		return " + "
	case api.CombLater:
		return " ~ "
	}
	return " "
}

func (w *writer) simple(s api.Simple) {
	switch s.Kind {
	case api.SelType:
		w.put(prefix(s), chars.Ident(s.Name))
	case api.SelAny:
		w.put(prefix(s), "*")
	case api.SelClass:
		w.put(".", chars.Ident(s.Name))
	case api.SelID:
		w.put("#", chars.Ident(s.Name))
	case api.SelAttr:
		w.put("[", prefix(s), chars.Ident(s.Name), condition(s), "]")
	case api.SelRoot:
		w.put(":root")
	case api.SelNth:
		w.nth(s)
	case api.SelIs:
		w.function(":is(", s.Of)
	case api.SelWhere:
		w.function(":where(", s.Of)
	case api.SelNot:
		w.function(":not(", s.Of)
	case api.SelState:
		w.put(":", s.Name)
	case api.SelLink:
		w.put(":any-link")
	case api.SelPseudo:
		w.put("::", s.Name)
	}
}

func (w *writer) nth(s api.Simple) {
	w.put(":nth-child(", anb.Text(s.AB.A, s.AB.B))
	if len(s.Of) > 0 {
		w.put(" of ")
		w.list(s.Of)
	}
	w.put(")")
}

func (w *writer) function(head string, list []api.Complex) {
	w.put(head)
	w.list(list)
	w.put(")")
}

// prefix gives the text of a name's prefix.
func prefix(s api.Simple) string {
	switch s.NS {
	case api.NSAny:
		return "*|"
	case api.NSEmpty:
		return "|"
	case api.NSNamed:
		return chars.Ident(s.Prefix) + "|"
	}
	return ""
}

// condition gives the text of what is asked of an attribute's value.
func condition(s api.Simple) string {
	if s.Cond.Op == api.OpHas {
		return ""
	}
	return operator(s.Cond.Op) + chars.Quote(s.Cond.Text) + mark(s.Mark)
}

func operator(op int) string {
	if op < api.OpIs || op >= len(operators) {
		op = api.OpIs
	}
	return operators[op]
}

func mark(mark int) string {
	switch mark {
	case api.MarkFold:
		return " i"
	case api.MarkExact:
		return " s"
	}
	return ""
}
