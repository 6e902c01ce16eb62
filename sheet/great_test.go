package sheet_test

import (
	"strconv"
	"strings"
	"testing"

	"wattle/api"
	"wattle/sheet"
)

// fill gives a part again and again, as often as it fits into so many bytes.
func fill(part string, most int) string { return strings.Repeat(part, most/len(part)) }

// P1: great texts end in time, however much of one thing there is, or stands in one another.
func TestGreatTexts(t *testing.T) {
	const most = api.MaxSheet
	for _, part := range []string{" ", ";", "a", "{", "}", "(", "a{", "@media x{", "@media{", "@media", "@m;", "@media x;", "@supports{}", "@page{}", "@namespace p'u';", "@namespace", "/*", "<!--", "'", "\\", "a:b;", "@media x{@page{", "@page{a{}}"} {
		text := fill(part, most)
		s, err := sheet.Read([]byte(text))
		if err != nil || len(s.Styles) > api.MaxStyles {
			t.Errorf("%q: %v", part, err)
		}
		if s, err := sheet.Read([]byte("a{" + text[:min(len(text), most-2)])); err != nil || len(s.Styles) == 0 {
			t.Errorf("a{ and %q: %v", part, err)
		}
	}
	for _, text := range []string{fill("a{}", most), fill("{}", most), fill("@media x{a{}}", most), fill("a{b:c;d:e !important}", most)} {
		if _, err := sheet.Read([]byte(text)); !isFault(err, api.ErrOver, 0) {
			t.Errorf("%.20q: %v", text, err)
		}
	}
	if s, err := sheet.Read([]byte("a{" + fill("b:c;", most-3) + "}")); err != nil || len(s.Styles[0].Decls) != (most-3)/4 {
		t.Errorf("%v", err)
	}
}

// P1: many namespaces, many conditions, and many styles that have to do with these.
func TestManyOfAll(t *testing.T) {
	const half = api.MaxSheet / 2
	var spaces, conds, prefixed strings.Builder
	count := 0
	for ; spaces.Len() < half-40; count++ {
		spaces.WriteString("@namespace p" + strconv.Itoa(count) + "'u';")
	}
	for i := range api.MaxStyles {
		prefixed.WriteString("p" + strconv.Itoa(i*5%count) + "|a{}")
	}
	s, err := sheet.Read([]byte(spaces.String() + prefixed.String()))
	if err != nil || len(s.Names.Prefixes) != count || len(s.Styles) != api.MaxStyles {
		t.Fatalf("%v, %d", err, len(s.Names.Prefixes))
	}
	for i, x := range s.Styles {
		if x.Err != 0 || x.List[0].List[0].List[0].Prefix != "p"+strconv.Itoa(i*5%count) {
			t.Fatalf("%d: %v", i, x)
		}
	}
	// One list that names as many of them as there is room for.
	var list strings.Builder
	for i := 0; list.Len() < half-40; i++ {
		list.WriteString("p" + strconv.Itoa(i%count) + "|a,")
	}
	s, err = sheet.Read([]byte(spaces.String() + list.String() + "a{}"))
	if err != nil || len(s.Styles) != 1 || s.Styles[0].Err != 0 {
		t.Fatalf("%v", err)
	}
	for i := 0; conds.Len() < half-40; i++ {
		conds.WriteString("@media x" + strconv.Itoa(i) + "{}")
	}
	s, err = sheet.Read([]byte(conds.String() + strings.Repeat("@media x7{", 32) + fill("a{}", 3*api.MaxStyles)))
	if err != nil || len(s.Styles) != api.MaxStyles || len(s.Styles[9].Conds) != 1 || s.Styles[9].Conds[0] != 7 {
		t.Fatalf("%v, %d", err, len(s.Styles))
	}
}
