package slots

import (
	"testing"

	"slots/api"
)

func wantCheck(t *testing.T, policy string, want api.Errno, place int) {
	t.Helper()
	if err, at := Check(policy); err != want || at != place {
		t.Errorf("P4: Check(%q) = %d, %d, want %d, %d", policy, err, at, want, place)
	}
}

func TestCheckExamples(t *testing.T) {
	wantCheck(t, "score x;", api.ErrName, 6)
	wantCheck(t, "let a = a; reject;", api.ErrName, 8)
	wantCheck(t, "let a = 1; let a = 2; reject;", api.ErrName, 15)
	wantCheck(t, "score true;", api.ErrType, 6)
	wantCheck(t, "when size score 1;", api.ErrType, 5)
	wantCheck(t, "score 1 + (2 < 3);", api.ErrType, 8)
	wantCheck(t, "when need = 1 reject;", api.ErrType, 10)
	wantCheck(t, "when size<=cap-used score 10*(speed+1) ; reject;", api.OK, 0)
	wantCheck(t, "let a = ((007)) ; score (a+1)-(2-a)* - -3;", api.OK, 0)
	wantCheck(t, "when cap - used < size reject; when need != has reject; score 100 / zone;", api.OK, 0)
	wantCheck(t, "when 1 < 2 score 3 + 4; reject;", api.OK, 0)
	wantCheck(t, "score zone * 2 - used;", api.OK, 0)
	wantCheck(t, "score 6 / (zone - 3);", api.OK, 0)
}

func TestCheckNames(t *testing.T) {
	for policy, place := range map[string]int{
		"score a;":                                     6,
		"when a reject;":                               5,
		"when true score 1 + -(2 * a);":                26,
		"score a + b;":                                 6,
		"let a = 1; score b + a + c;":                  17,
		"let a = 1; when b score c;":                   16,
		"let a = b; let b = 1; reject;":                8,
		"let a = b; let a = 1; reject;":                8,
		"let a = 1; let a = a; reject;":                15,
		"let a = 1; let a = b; score c;":               15,
		"let a = 1; let b = 2; let a = 3; score c;":    26,
		"let a = 1; let b = b; score a;":               19,
		"let a = 1; score a; score aa;":                26,
		"let aa = 1; score a;":                         18,
		"let abcdefgh = 1; score abcdefg + abcdefgh;":  24,
		"let a = 1; let b = a; let c = d + a; reject;": 30,
	} {
		wantCheck(t, policy, api.ErrName, place)
	}
	wantCheck(t, "let a = 1; let b = a; let c = a + b; when a < c score a * b - c;", api.OK, 0)
	wantCheck(t, "let lets = 1; let abcdefgh = lets; score abcdefgh + lets;", api.OK, 0)
	wantCheck(t, "let a = 1; let aa = 2; let b = a = aa; when b reject;", api.OK, 0)
}

func TestCheckOperators(t *testing.T) {
	singles := map[string][]string{
		"number": {"1", "size", "speed", "zone", "cap", "used", "(1 + 2)", "(-1)", "n"},
		"truth":  {"true", "false", "(1 < 2)", "(not true)", "(dry = cold)", "(true and false)", "t"},
		"class":  {"dry", "cold", "safe", "need", "has", "c"},
	}
	lets := "let n = 1 * 2; let t = not (1 <= 2); let c = (has); "
	takes := map[string]string{
		"+": "number", "-": "number", "*": "number", "/": "number", "%": "number", "<": "number", "<=": "number",
		"=": "like", "!=": "like", "and": "truth", "or": "truth",
	}
	for sign, kind := range takes {
		for leftKind, lefts := range singles {
			for rightKind, rights := range singles {
				fits := leftKind == rightKind && (kind == "like" || kind == leftKind)
				for _, left := range lefts {
					for _, right := range rights {
						start := lets + "let x = " + left + " "
						checkOperator(t, start, sign+" "+right+"; reject;", fits)
					}
				}
			}
		}
	}
	for kind, operands := range singles {
		for _, operand := range operands {
			checkOperator(t, lets+"let x = ", "- "+operand+"; reject;", kind == "number")
			checkOperator(t, lets+"let x = ", "not "+operand+"; reject;", kind == "truth")
		}
	}
}

// checkOperator wants the error, if any, at the operator with which the second text begins.
func checkOperator(t *testing.T, start, rest string, fits bool) {
	t.Helper()
	if fits {
		wantCheck(t, start+rest, api.OK, 0)
	} else {
		wantCheck(t, start+rest, api.ErrType, len(start))
	}
}

func TestCheckWhatOperatorsMake(t *testing.T) {
	for _, number := range []string{"1 + 2", "1 - 2", "1 * 2", "1 / 0", "1 % 2", "-1", "--size", "(1)"} {
		wantCheck(t, "score "+number+";", api.OK, 0)
		wantCheck(t, "when "+number+" reject;", api.ErrType, 5)
	}
	truths := []string{"1 < 2", "1 <= 2", "1 = 2", "1 != 2", "true and false", "true or false", "not true", "need = has",
		"true != (1 < 2)", "1 < 2 = true", "not not false"}
	for _, truth := range truths {
		wantCheck(t, "when "+truth+" reject;", api.OK, 0)
		wantCheck(t, "score "+truth+";", api.ErrType, 6)
	}
	for _, class := range []string{"dry", "cold", "safe", "need", "has", "(dry)"} {
		wantCheck(t, "let a = "+class+"; reject;", api.OK, 0)
		wantCheck(t, "when "+class+" reject;", api.ErrType, 5)
		wantCheck(t, "when true score "+class+";", api.ErrType, 16)
	}
}

func TestCheckOrderOfKinds(t *testing.T) {
	for policy, place := range map[string]int{
		// An operator comes behind those in its operands, the left operand ahead of the right.
		"score true + (dry + 1);":               18,
		"score (1 + true) + (dry + 1);":         9,
		"score (true + 1) * (1 + true) + dry;":  12,
		"score 1 + true * 2;":                   15,
		"score 1 * true + 2 * true;":            8,
		"when not (2 < 3 + true) reject;":       16,
		"score -(-true);":                       8,
		"when not -true reject;":                9,
		"when 1 and (2 or true) reject;":        14,
		"when 1 < 2 < 3 reject;":                11,
		"when not 1 = 1 reject;":                5,
		"when true = not (1 = dry) reject;":     19,
		"when size = need and 1 + true reject;": 10,
		// The operators of an EXPR come ahead of the kind of the whole.
		"when 1 + dry score 1;": 7,
		"score (true) = dry;":   13,
		// EXPRs come in the order of the text.
		"when 1 score true + 1;":                            5,
		"score true; when 1 + dry reject;":                  6,
		"when 1 = 1 score dry; score -true;":                17,
		"let a = 1 + true; score -dry;":                     10,
		"let a = not 1; let b = -true; reject;":             8,
		"let a = 1; let b = a and true; score true;":        21,
		"let a = dry; let b = a; when b = 1 reject;":        31,
		"let a = 1 < 2; score a;":                           21,
		"let a = 1; when (a) score 2;":                      16,
		"score ( (true) );":                                 6,
		"score\n\n  (-(1)) = 1;":                            9,
		"let a = true; let b = a + 1; when b score b;":      24,
		"when true reject; reject; score 1; when 0 reject;": 40,
	} {
		wantCheck(t, policy, api.ErrType, place)
	}
}

func TestCheckOrderOfErrors(t *testing.T) {
	big := "let a = 1+1+1+1+1; let b = a+a+a+a+a+a; let c = b+b+b+b; "
	wantCheck(t, "score true + x; @", api.ErrToken, 16)
	wantCheck(t, "score true + x; score", api.ErrSyntax, 21)
	wantCheck(t, "score true; score x;", api.ErrName, 18)
	wantCheck(t, big+"score c; score true;", api.ErrType, len(big)+15)
	wantCheck(t, big+"score c; score x;", api.ErrName, len(big)+15)
	wantCheck(t, big+"score c; score 1", api.ErrSyntax, len(big)+16)
	wantCheck(t, big+"score c;", api.ErrBig, 0)
}

// sum has 2n - 1 parts.
func sum(n int) string { return repeat("1+", n-1) + "1" }

func TestCheckParts(t *testing.T) {
	ten := "let a=" + sum(10) + ";"
	for _, c := range []struct {
		policy string
		parts  int
	}{
		{"reject;", 0}, {"score 1;", 1},
		{"score " + sum(75) + ";", 149}, {"score -" + sum(75) + ";", 150}, {"score --" + sum(75) + ";", 151},
		{"score " + sum(76) + ";", 151}, {"score " + sum(190) + ";", 379},
		{"score " + repeat("-", 149) + "1;", 150}, {"score " + repeat("-", 150) + "1;", 151},
		{"score -" + repeat("(", 8) + sum(75) + repeat(")", 8) + ";", 150},
		{"when size<" + sum(37) + " score " + sum(38) + ";", 150},
		{"when size<" + sum(37) + " score -" + sum(38) + ";", 151},
		{"when size<" + sum(74) + " reject;reject;", 149}, {"when size<" + sum(75) + " reject;", 151},
		{"score " + sum(38) + ";reject;score " + sum(38) + ";reject;", 150},
		{"score " + sum(38) + ";reject;score -" + sum(38) + ";reject;", 151},
		{ten + "score a+a+a+a+a+a+a+1+1+1+1+1;", 149},
		{ten + "score -a+a+a+a+a+a+a+1+1+1+1+1;", 150},
		{ten + "score --a+a+a+a+a+a+a+1+1+1+1+1;", 151},
		{ten + "let b=(a+a);let c=b;score c+b+-((b))+a;", 140},
		{ten + "let b=a+a;let c=b;when c<c reject;when b=b reject;", 158},
		{ten + "let b=a+a+a+a;let c=b+b+b+b;let d=c+c;reject;score a;", 19},
	} {
		want := api.OK
		if c.parts > api.MaxParts {
			want = api.ErrBig
		}
		wantCheck(t, c.policy, want, 0)
	}
}

// The parts of NAMEs grow beyond counting.
func TestCheckVeryManyParts(t *testing.T) {
	lets, name := "let a=1;", "a"
	for next := 'b'; next < 'y'; next++ {
		lets += "let " + string(next) + "=" + repeat(name+"+", 4) + name + ";"
		name = string(next)
	}
	wantCheck(t, lets+"score "+name+";", api.ErrBig, 0)
	wantCheck(t, lets+"reject;", api.OK, 0)
	wantCheck(t, lets+"score a;", api.OK, 0)
}

// What Print and Check answer hangs on the text alone, whatever was asked ahead of it.
func TestAnswersHangOnTheTextAlone(t *testing.T) {
	policies := []string{"let a = 1; score a;", "score a;", "score (((1);", "@", "", "score 1;", repeat(" ", 401)}
	for _, first := range policies {
		for _, second := range policies {
			plain, err, at := Print(second)
			checked, checkedAt := Check(second)
			Print(first)
			Check(first)
			if s, e, n := Print(second); s != plain || e != err || n != at {
				t.Errorf("P2: Print(%q) behind %q = %q, %d, %d", second, first, s, e, n)
			}
			if e, n := Check(second); e != checked || n != checkedAt {
				t.Errorf("P2: Check(%q) behind %q = %d, %d", second, first, e, n)
			}
		}
	}
}
