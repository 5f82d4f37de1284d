package token

import (
	"strings"
	"testing"

	"slots/api"
)

func TestScanKinds(t *testing.T) {
	text := "let when score reject and or not true false dry cold safe size speed need zone cap used has" +
		" ; = != < <= + - * / % ( ) lets 007"
	kinds := []int{
		Let, When, Score, Reject, And, Or, Not, True, False, Dry, Cold, Safe, Size, Speed, Need, Zone, Cap, Used, Has,
		Semicolon, Equal, Unequal, Less, Most, Plus, Minus, Times, Divide, Modulo, Open, Close, Name, Number, End,
	}
	tokens, ok, place := Scan(text)
	if !ok || place != 0 || len(tokens) != len(kinds) {
		t.Fatalf("Scan: %v, %d, %d tokens", ok, place, len(tokens))
	}
	for i, piece := range append(strings.Fields(text), "") {
		if tokens[i].Kind != kinds[i] || tokens[i].Text != piece {
			t.Errorf("token %d is %+v, want kind %d of %q", i, tokens[i], kinds[i], piece)
		}
	}
}

func TestClassesAndAttributesStandInTheOrderOfTheirNumbers(t *testing.T) {
	for _, c := range [][2]int{
		{Dry - Dry, api.Dry}, {Cold - Dry, api.Cold}, {Safe - Dry, api.Safe},
		{Size - Size, api.Size}, {Speed - Size, api.Speed}, {Need - Size, api.Need}, {Zone - Size, api.Zone},
		{Cap - Size, api.Cap}, {Used - Size, api.Used}, {Has - Size, api.Has},
	} {
		if c[0] != c[1] {
			t.Errorf("%d, want %d", c[0], c[1])
		}
	}
}

func TestScanTakesTheLongest(t *testing.T) {
	for _, c := range []struct {
		text   string
		pieces string
		places []int
	}{
		{"", "", []int{0}},
		{" \n ", "", []int{3}},
		{"<==", "<= =", []int{0, 2, 3}},
		{"!==", "!= =", []int{0, 2, 3}},
		{"<<=", "< <=", []int{0, 1, 3}},
		{"< =", "< =", []int{0, 2, 3}},
		{"12ab34", "12 ab 34", []int{0, 2, 4, 6}},
		{"notnot", "notnot", []int{0, 6}},
		{"abcdefgh\n123456789012345678", "abcdefgh 123456789012345678", []int{0, 9, 27}},
	} {
		tokens, ok, place := Scan(c.text)
		texts := []string{}
		for i, token := range tokens {
			texts = append(texts, token.Text)
			if i >= len(c.places) || token.Place != c.places[i] {
				t.Errorf("Scan(%q): token %d at %d, want %v", c.text, i, token.Place, c.places)
			}
		}
		if joined := strings.TrimSpace(strings.Join(texts, " ")); !ok || place != 0 || joined != c.pieces {
			t.Errorf("Scan(%q) = %q, %v, %d, want %q", c.text, joined, ok, place, c.pieces)
		}
	}
}

func TestScanTellsTheFirstByteThatBeginsNoToken(t *testing.T) {
	for text, want := range map[string]int{
		"@":                       0,
		" \t":                     1,
		"a!b":                     1,
		"a! =b":                   1,
		"1>2":                     1,
		"aB":                      1,
		"1\r\n":                   1,
		"ab\xff":                  2,
		"x 1234567890123456789":   2,
		"x 0000000000000000001":   2,
		"x abcdefghi":             2,
		"abcdefgh abcdefghijk ?":  9,
		"1 & 2 @":                 2,
		"!":                       0,
		"1.5":                     1,
		"a,b":                     1,
		"a\x00":                   1,
		"`":                       0,
		"{":                       0,
		"a/":                      -1,
		"0123456789 a0z (a)%1 ;;": -1,
	} {
		tokens, ok, place := Scan(text)
		if want < 0 {
			if !ok || place != 0 || len(tokens) == 0 {
				t.Errorf("Scan(%q) = %v, %v, %d", text, tokens, ok, place)
			}
		} else if ok || place != want || tokens != nil {
			t.Errorf("Scan(%q) = %v, %v, %d, want place %d", text, tokens, ok, place, want)
		}
	}
}

func TestEveryOtherByteBeginsNoToken(t *testing.T) {
	const begin = " \n;=<+-*/%()0123456789abcdefghijklmnopqrstuvwxyz"
	for b := 0; b < 256; b++ {
		_, ok, place := Scan(string([]byte{' ', byte(b)}))
		begins := strings.IndexByte(begin, byte(b)) >= 0
		if ok != begins || !ok && place != 1 {
			t.Errorf("byte %d: %v, %d", b, ok, place)
		}
	}
}
