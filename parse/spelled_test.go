package parse_test

import (
	"strconv"
	"strings"
	"testing"

	"wattle/api"
	"wattle/chars"
	"wattle/parse"
	"wattle/sel"
)

// speller makes lists of selectors, and beside each of them a text that tells it, out of a seed.
type speller struct {
	seed uint64
	text strings.Builder
}

// pick gives a number below n.
func (m *speller) pick(n int) int {
	m.seed = m.seed*6364136223846793005 + 1442695040888963407
	return int(m.seed>>33) % n
}

func (m *speller) put(s string) { m.text.WriteString(s) }

// gap is what may stand where nothing need.
func (m *speller) gap() { m.put([]string{"", "", "", "/**/", "/* , */"}[m.pick(5)]) }

// blanks are some, or none.
func (m *speller) blanks() { m.put([]string{"", "", " ", "\t\r\n", " /**/ ", "/**/"}[m.pick(6)]) }

// some are blanks, one at least.
func (m *speller) some() { m.put([]string{" ", "  ", "\f", "/**/ ", " /*>*/"}[m.pick(5)]) }

// name spells a name.
func (m *speller) name() string {
	name := []string{"a", "b", "B", "of", "not", "n", "-", "--x", "1a", "-1", "é", "a b", "x\ny", "\ufeff", "\x7f", "i", "p", "even", "\U0001f600", `\`}[m.pick(20)]
	m.put(m.spelled(name))
	return name
}

// spelled gives a name as layer 2 writes it, or by its characters' numbers.
func (m *speller) spelled(name string) string {
	if m.pick(3) > 0 {
		return chars.Ident(name)
	}
	var out strings.Builder
	for _, r := range name {
		out.WriteString(`\` + strings.Repeat("0", m.pick(2)) + strings.ToUpper(strconv.FormatInt(int64(r), 16)) + []string{" ", "\n"}[m.pick(2)])
	}
	return out.String()
}

// word spells a name that is looked at with small letters.
func (m *speller) word(name string) {
	switch m.pick(4) {
	case 0:
		name = strings.ToUpper(name)
	case 1:
		name = strings.ToUpper(name[:1]) + name[1:]
	case 2:
		name = m.spelled(name)
	}
	m.put(name)
}

func (m *speller) prefix(s *simple) {
	s.NS = m.pick(8)
	switch s.NS {
	case api.NSAny:
		m.put("*")
	case api.NSEmpty:
	case api.NSNamed:
		s.Prefix = prefixes.Prefixes[m.pick(2)]
		m.put(m.spelled(s.Prefix))
	default:
		s.NS = api.NSNone
		return
	}
	m.gap()
	m.put("|")
	m.gap()
}

func (m *speller) list(depth int) []api.Complex {
	var out []api.Complex
	m.blanks()
	for range 1 + m.pick(3)*m.pick(2) {
		if len(out) > 0 {
			m.put(",")
			m.blanks()
		}
		out = append(out, m.selector(depth))
		m.blanks()
	}
	return out
}

func (m *speller) selector(depth int) api.Complex {
	var out api.Complex
	for i := range 1 + m.pick(3) {
		comb := api.CombFirst
		if i > 0 {
			comb = m.combinator()
		}
		out.List = append(out.List, api.Compound{Comb: comb, List: m.compound(depth)})
	}
	if depth == 0 && m.pick(4) == 0 {
		last := &out.List[len(out.List)-1]
		last.List = append(last.List, m.element())
	}
	return out
}

func (m *speller) combinator() int {
	comb := api.CombBelow + m.pick(4)
	if comb == api.CombBelow {
		m.some()
		return comb
	}
	m.blanks()
	m.put([]string{">", "+", "~"}[comb-api.CombChild])
	m.blanks()
	return comb
}

func (m *speller) element() simple {
	i := m.pick(8)
	name := []string{"before", "after", "first-line", "first-letter", "marker", "selection", "placeholder", "backdrop"}[i]
	m.put([]string{":", "::", ":/**/:"}[max(m.pick(3), min(1, i/4))])
	m.word(name)
	return pseudo(name)
}

func (m *speller) compound(depth int) []simple {
	var out []simple
	if m.pick(2) == 0 {
		s := simple{Kind: api.SelAny}
		m.prefix(&s)
		if m.pick(3) > 0 {
			s.Kind, s.Name = api.SelType, m.name()
		} else {
			m.put("*")
		}
		out = append(out, s)
	}
	for len(out) == 0 || m.pick(2) == 0 {
		m.gap()
		out = append(out, m.simple(depth, out))
	}
	return out
}

func (m *speller) simple(depth int, ahead []simple) simple {
	switch kind := m.pick(12); {
	case kind == 0:
		m.put("#")
		return id(m.name())
	case kind < 3:
		m.put(".")
		m.gap()
		return class(m.name())
	case kind < 6:
		return m.attribute()
	case kind < 9 || depth > 3:
		return m.class(ahead)
	}
	return m.function(depth, ahead)
}

func (m *speller) attribute() simple {
	s := simple{Kind: api.SelAttr, Cond: api.Cond{Op: api.OpHas + m.pick(7)}}
	m.put("[")
	m.blanks()
	m.prefix(&s)
	s.Name = m.name()
	m.blanks()
	if s.Cond.Op > api.OpHas {
		m.put([]string{"=", "~=", "|=", "^=", "$=", "*="}[s.Cond.Op-api.OpIs])
		m.blanks()
		if m.pick(2) == 0 {
			s.Cond.Text = m.name()
			m.some()
		} else {
			s.Cond.Text = []string{"", "x", `"`, "'", "a\\b", "\n", "é ]", "i"}[m.pick(8)]
			m.put(chars.Quote(s.Cond.Text))
			m.blanks()
		}
		s.Mark = m.pick(3)
		s.Cond.Fold = s.Mark == api.MarkFold
		if s.Mark > 0 {
			m.word([]string{"", "i", "s"}[s.Mark])
			m.blanks()
		}
	}
	m.put("]")
	return s
}

func (m *speller) class(ahead []simple) simple {
	m.put(":")
	m.gap()
	switch kind := m.pick(7); {
	case kind == 0:
		m.word("root")
		return simple{Kind: api.SelRoot}
	case kind == 1:
		m.word("any-link")
		return simple{Kind: api.SelLink}
	case kind == 2:
		m.word("first-child")
		return nth(0, 1)
	case kind == 3 && len(ahead) > 0 && ahead[0].Kind == api.SelType:
		m.word("first-of-type")
		return nth(0, 1, of(ahead[0]))
	}
	name := []string{"hover", "active", "focus", "focus-visible", "visited", "link", "checked", "disabled", "enabled", "target"}[m.pick(10)]
	m.word(name)
	return state(name)
}

func (m *speller) function(depth int, ahead []simple) (s simple) {
	m.put(":")
	m.gap()
	switch kind := m.pick(6); {
	case kind < 3:
		m.word([]string{"is", "where", "not"}[kind])
		m.put("(")
		s = within(api.SelIs+kind, m.list(depth+1)...)
	case kind == 3 && len(ahead) > 0 && ahead[0].Kind == api.SelType:
		m.word("nth-of-type")
		m.put("(")
		s = m.anb()
		s.Of = []api.Complex{of(ahead[0])}
	default:
		m.word("nth-child")
		m.put("(")
		s = m.anb()
		if m.pick(2) == 0 {
			m.some()
			m.word("of")
			m.some()
			s.Of = m.list(depth + 1)
		}
	}
	m.put(")")
	return s
}

func (m *speller) anb() simple {
	m.blanks()
	i := m.pick(12)
	m.put([]string{"even", "ODD", "5", "-5", "+n", "-N", "2n", "3n+1", "-n + 3", "4n- 7", "1000000n-1000000", "0n +/**/0"}[i])
	ab := [][2]int{{2, 0}, {2, 1}, {0, 5}, {0, -5}, {1, 0}, {-1, 0}, {2, 0}, {3, 1}, {-1, 3}, {4, -7}, {1000000, -1000000}, {0, 0}}[i]
	m.blanks()
	return nth(ab[0], ab[1])
}

// P9.1, P9.2: many lists, spelled in many ways, are read as what they tell.
func TestSpelledLists(t *testing.T) {
	for seed := range 20000 {
		m := speller{seed: uint64(seed) * 0x9e3779b97f4a7c15}
		want := m.list(0)
		got, err := parse.Selectors([]byte(m.text.String()), prefixes)
		if err != nil || !sel.Same(got, want) {
			t.Fatalf("%q: %v, %v, not %v", m.text.String(), got, err, want)
		}
		if err := sel.Check(got, prefixes); err != nil {
			t.Fatalf("%q: %v", m.text.String(), err)
		}
	}
}
