package sel

import (
	"wattle/api"
	"wattle/decode"
)

// known is the prefixes that there are.
type known map[string]struct{}

// prefixes gives the prefixes of namespaces, if these are right.
func prefixes(names api.Names) (known, bool) {
	if len(names.Prefixes) != len(names.Spaces) || !isRight(names.Default) {
		return nil, false
	}
	out := known{}
	for i, prefix := range names.Prefixes {
		if !isName(prefix) || out.has(prefix) || !isRight(names.Spaces[i]) {
			return nil, false
		}
		out[prefix] = struct{}{}
	}
	return out, true
}

func (k known) has(prefix string) bool {
	_, ok := k[prefix]
	return ok
}

// rightList tells whether a list is right, by itself or within another selector.
func (k known) rightList(list []api.Complex, within bool) bool {
	for _, c := range list {
		if !k.rightComplex(c, within) {
			return false
		}
	}
	return len(list) > 0
}

func (k known) rightComplex(c api.Complex, within bool) bool {
	for i, part := range c.List {
		last := i == len(c.List)-1
		if !rightComb(part.Comb, i == 0) || !k.rightCompound(part.List, last && !within) {
			return false
		}
	}
	return len(c.List) > 0
}

func rightComb(comb int, first bool) bool {
	if first {
		return comb == api.CombFirst
	}
	return comb >= api.CombBelow && comb <= api.CombLater
}

// rightCompound tells whether a compound's simple selectors are right; just where the selector ends with them one may be a pseudo-element.
func (k known) rightCompound(list []api.Simple, ends bool) bool {
	for i, s := range list {
		switch s.Kind {
		case api.SelType, api.SelAny:
			if i > 0 {
				return false
			}
		case api.SelPseudo:
			if !ends || i < len(list)-1 {
				return false
			}
		}
		if !k.rightSimple(s) {
			return false
		}
	}
	return len(list) > 0
}

// rightSimple tells whether a simple selector is right. What a Kind has is taken out of rest when it is found right, since nothing else may be there.
func (k known) rightSimple(s api.Simple) bool {
	rest, ok := s, false
	rest.Kind = 0
	switch s.Kind {
	case api.SelAttr:
		if !rightCond(s.Cond, s.Mark) {
			return false
		}
		rest.Cond, rest.Mark = api.Cond{}, 0
		fallthrough
	case api.SelType:
		if !isName(s.Name) {
			return false
		}
		rest.Name = ""
		fallthrough
	case api.SelAny:
		ok = k.rightSpace(s.NS, s.Prefix)
		rest.NS, rest.Prefix = 0, ""
	case api.SelClass, api.SelID:
		ok = isName(s.Name)
		rest.Name = ""
	case api.SelState:
		ok = State(s.Name)
		rest.Name = ""
	case api.SelPseudo:
		ok = Element(s.Name)
		rest.Name = ""
	case api.SelRoot, api.SelLink:
		ok = true
	case api.SelNth:
		ok = inBounds(s.AB.A) && inBounds(s.AB.B) && (len(s.Of) == 0 || k.rightList(s.Of, true))
		rest.AB, rest.Of = api.AB{}, nil
	case api.SelIs, api.SelWhere, api.SelNot:
		ok = k.rightList(s.Of, true)
		rest.Of = nil
	}
	return ok && sameSimple(rest, api.Simple{})
}

// rightSpace tells whether a name stands in a namespace as it may. Just a way that has a prefix may come with one.
func (k known) rightSpace(way int, prefix string) bool {
	if way == api.NSNamed {
		return k.has(prefix)
	}
	return way >= api.NSNone && way <= api.NSEmpty && prefix == ""
}

func rightCond(c api.Cond, mark int) bool {
	if c.Op == api.OpHas {
		return mark == api.MarkNone && c == api.Cond{Op: api.OpHas}
	}
	return c.Op >= api.OpIs && c.Op <= api.OpPart && isRight(c.Text) &&
		mark >= api.MarkNone && mark <= api.MarkExact && c.Fold == (mark == api.MarkFold)
}

// inBounds tells whether a number may stand in an An+B. (Its sign isn't taken away: the least number has no other one.)
func inBounds(n int) bool { return n >= -api.MaxNth && n <= api.MaxNth }

func isName(s string) bool { return s != "" && isRight(s) }

func isRight(s string) bool { return decode.Right([]byte(s)) }
