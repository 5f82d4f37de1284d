package slots

import (
	"math/rand"
	"strconv"
	"strings"
	"testing"

	"slots/api"
)

func compare(t *testing.T, text string) api.Errno {
	t.Helper()
	got, err, at := Print(text)
	want, wantErr, wantAt := refPrint(text)
	if got != want || err != wantErr || at != wantAt {
		t.Fatalf("P3: Print(%q) = %q, %d, %d, want %q, %d, %d", text, got, err, at, want, wantErr, wantAt)
	}
	err, at = Check(text)
	wantErr, wantAt = refCheck(text)
	if err != wantErr || at != wantAt {
		t.Fatalf("P4: Check(%q) = %d, %d, want %d, %d", text, err, at, wantErr, wantAt)
	}
	return err
}

func TestAllShortExprs(t *testing.T) {
	pieces := []string{"1", "-", "*", "=", "(", ")", "not"}
	rows := []string{""}
	for length := 1; length <= 5; length++ {
		longer := []string{}
		for _, row := range rows {
			for _, piece := range pieces {
				longer = append(longer, row+" "+piece)
				compare(t, "score"+row+" "+piece+";")
			}
		}
		rows = longer
	}
}

func TestAllShortPolicies(t *testing.T) {
	pieces := []string{"let", "a", "=", "true", ";", "when", "score", "reject"}
	rows := []string{""}
	for length := 1; length <= 4; length++ {
		longer := []string{}
		for _, row := range rows {
			for _, piece := range pieces {
				longer = append(longer, row+" "+piece)
				compare(t, row+" "+piece)
				compare(t, "let a = 1;"+row+" "+piece+" ;")
			}
		}
		rows = longer
	}
}

// maker makes policies, most of them sound.
type maker struct {
	*rand.Rand
	names []string
	kinds []string
}

func (m *maker) one(list string) string {
	choices := strings.Fields(list)
	return choices[m.Intn(len(choices))]
}

func (m *maker) single(kind string) string {
	if m.Intn(40) == 0 {
		return m.one("true need 7 nope size")
	}
	if len(m.names) > 0 && m.Intn(3) == 0 {
		i := m.Intn(len(m.names))
		if m.kinds[i] == kind {
			return m.names[i]
		}
	}
	switch kind {
	case "truth":
		return m.one("true false")
	case "class":
		return m.one("dry cold safe need has")
	}
	return m.one("0 00 7 0012 999999999999999999 size speed zone cap used")
}

func (m *maker) expr(kind string, depth int) string {
	if m.Intn(8) == 0 {
		return "( " + m.expr(kind, depth) + " )"
	}
	if depth == 0 || kind == "class" || m.Intn(6) == 0 {
		return m.single(kind)
	}
	if m.Intn(40) == 0 {
		kind = m.one("truth number")
	}
	like, sign := kind, m.one("+ - * / %")
	if kind == "truth" {
		switch m.Intn(4) {
		case 0:
			like, sign = "number", m.one("< <=")
		case 1:
			like, sign = m.one("number truth class"), m.one("= !=")
		default:
			sign = m.one("and or")
		}
	}
	if m.Intn(5) == 0 {
		one := map[string]string{"truth": "not ", "number": "- "}[kind]
		return one + m.operand(kind, depth-1)
	}
	left := m.operand(like, depth-1)
	return left + " " + sign + " " + m.operand(like, depth-1)
}

func (m *maker) operand(kind string, depth int) string {
	if m.Intn(2) == 0 {
		return m.expr(kind, depth)
	}
	return "( " + m.expr(kind, depth) + " )"
}

func (m *maker) policy() string {
	m.names, m.kinds = nil, nil
	text := ""
	for m.Intn(5) > 1 && len(m.names) < 6 {
		name := m.one("a b c lets scored abcdefgh") + strings.Repeat("x", m.Intn(2)*len(m.names)%3)
		kind := m.one("number number truth class")
		text += "let " + name + " = " + m.expr(kind, 1+m.Intn(3)) + " ; "
		m.names = append(m.names, name)
		m.kinds = append(m.kinds, kind)
	}
	for first := true; first || m.Intn(3) == 0; first = false {
		if m.Intn(2) == 0 {
			text += "when " + m.expr("truth", 1+m.Intn(4)) + " "
		}
		if m.Intn(3) == 0 {
			text += "reject ; "
		} else {
			text += "score " + m.expr("number", m.Intn(4)) + " ; "
		}
	}
	return text
}

// heavy makes policies whose NAMEs stand for many parts.
func (m *maker) heavy() string {
	text, name := "let a = 1 ; ", "a"
	for _, next := range strings.Fields("b c d e f g")[:1+m.Intn(6)] {
		text += "let " + next + " = " + strings.Repeat(name+" + ", m.Intn(5)) + "- " + name + " ; "
		name = next
	}
	return text + "when " + name + " < 1 reject ; score " + strings.Repeat("- ", m.Intn(5)) + name + " ; "
}

// spoil takes away, adds or replaces a token or two.
func (m *maker) spoil(pieces []string) []string {
	for n := 1 + m.Intn(2); n > 0 && len(pieces) > 0; n-- {
		at := m.Intn(len(pieces))
		spoilt := append([]string{}, pieces[:at]...)
		if m.Intn(3) > 0 {
			spoilt = append(spoilt, m.one("( ) - not 1 a ; = + let when score reject and has @ A 1234567890123456789"))
		}
		pieces = append(spoilt, pieces[at+m.Intn(2):]...)
	}
	return pieces
}

// lay puts tokens together, with blanks that have to be there and blanks that need not.
func (m *maker) lay(pieces []string) string {
	text := ""
	for _, piece := range pieces {
		if mix(text, piece) || m.Intn(3) == 0 {
			text += []string{" ", "\n", "  ", "\n \n"}[m.Intn(4)]
		}
		text += piece
	}
	return text
}

// mix tells whether a token laid right behind a text would make another token with its last one.
func mix(text, piece string) bool {
	if text == "" {
		return false
	}
	last, first := text[len(text)-1:], piece[:1]
	return refNumber.MatchString(last) && refNumber.MatchString(first) ||
		refWord.MatchString(last) && refWord.MatchString(first) ||
		last == "<" && first == "="
}

func TestManyPolicies(t *testing.T) {
	m := &maker{Rand: rand.New(rand.NewSource(1))}
	seen := map[api.Errno]int{}
	for i := 0; i < 6000; i++ {
		pieces := strings.Fields(m.policy())
		switch i % 6 {
		case 0, 1:
			pieces = m.spoil(pieces)
		case 2:
			pieces = strings.Fields(m.heavy())
		}
		seen[compare(t, m.lay(pieces))]++
	}
	for err := api.OK; err <= api.ErrBig; err++ {
		if seen[err] < 20 {
			t.Errorf("error %s came %d times: too seldom to be tested", strconv.Itoa(int(err)), seen[err])
		}
	}
}

func TestAnyBytes(t *testing.T) {
	m := rand.New(rand.NewSource(2))
	const near = "  \n;=!<+-*/%()09azletscorewhenrejectnot\t\x00\xffA"
	for i := 0; i < 4000; i++ {
		text := make([]byte, m.Intn(60))
		for j := range text {
			text[j] = near[m.Intn(len(near))]
			if m.Intn(50) == 0 {
				text[j] = byte(m.Intn(256))
			}
		}
		compare(t, string(text))
	}
}
