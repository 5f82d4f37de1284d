package slots

import (
	"strings"
	"testing"

	"slots/api"
)

// repeat is short for the long texts of the tests.
func repeat(piece string, n int) string { return strings.Repeat(piece, n) }

func wantPlain(t *testing.T, policy, plain string) {
	t.Helper()
	if s, err, at := Print(policy); s != plain || err != api.OK || at != 0 {
		t.Errorf("P3: Print(%q) = %q, %d, %d, want %q", policy, s, err, at, plain)
	}
}

// wantRefused holds for Check too: it has the errors of Print, with their places.
func wantRefused(t *testing.T, policy string, want api.Errno, place int) {
	t.Helper()
	if s, err, at := Print(policy); s != "" || err != want || at != place {
		t.Errorf("P3: Print(%.80q) = %q, %d, %d, want %d, %d", policy, s, err, at, want, place)
	}
	if err, at := Check(policy); err != want || at != place {
		t.Errorf("P4: Check(%.80q) = %d, %d, want %d, %d", policy, err, at, want, place)
	}
}

func TestPrintExamples(t *testing.T) {
	wantPlain(t, "when size<=cap-used score 10*(speed+1) ; reject;",
		"when size <= cap - used score 10 * (speed + 1);\nreject;")
	wantPlain(t, "let a = ((007)) ; score (a+1)-(2-a)* - -3;",
		"let a = 7;\nscore a + 1 - (2 - a) * --3;")
	wantPlain(t, "when cap - used < size reject; when need != has reject; score 100 / zone;",
		"when cap - used < size reject;\nwhen need != has reject;\nscore 100 / zone;")
	wantPlain(t, "when 1 < 2 score 3 + 4; reject;", "when 1 < 2 score 3 + 4;\nreject;")
	wantRefused(t, "", api.ErrSyntax, 0)
	wantRefused(t, "score 1", api.ErrSyntax, 7)
	wantRefused(t, "score 1 reject;", api.ErrSyntax, 8)
	wantRefused(t, "score 1 @", api.ErrToken, 8)
	wantRefused(t, "score 1; let a = 2;", api.ErrSyntax, 9)
	wantRefused(t, "let a = 1;", api.ErrSyntax, 10)
}

func TestPrintBlanks(t *testing.T) {
	wantPlain(t, " \n reject\n\n;  \n", "reject;")
	wantPlain(t, "reject;reject;", "reject;\nreject;")
	wantPlain(t, "let\na\n=\n1\n;\nscore\na\n;", "let a = 1;\nscore a;")
	wantPlain(t, "when(true)reject;", "when true reject;")
	wantPlain(t, "when 1score 2;", "when 1 score 2;")
	wantPlain(t, "score - 1- -1-- -1;", "score -1 - -1 - --1;")
	wantPlain(t, "score 2 * ( - ( 1 + 2 ) ) ;", "score 2 * -(1 + 2);")
	wantPlain(t, "when not-1=1 and - not true<2 reject;", "when not -1 = 1 and -not true < 2 reject;")
	wantPlain(t, "when not ( ( 1 ) = 2 ) reject ;", "when not (1 = 2) reject;")
	wantPlain(t, "score (1+2)*(3+(4-(5)));", "score (1 + 2) * (3 + (4 - 5));")
}

func TestPrintNumbers(t *testing.T) {
	for digits, plain := range map[string]string{
		"0": "0", "00": "0", "01": "1", "10": "10", "0010": "10", "100200": "100200",
		repeat("0", 18): "0", repeat("0", 17) + "5": "5", repeat("9", 18): repeat("9", 18),
	} {
		wantPlain(t, "score "+digits+";", "score "+plain+";")
		wantPlain(t, "score -"+digits+";", "score -"+plain+";")
	}
}

func TestPrintKeepsBracketsThatBind(t *testing.T) {
	lines := [][]string{{"or"}, {"and"}, {"=", "!=", "<", "<="}, {"+", "-"}, {"*", "/", "%"}}
	for less, outers := range lines {
		for more, inners := range lines {
			for _, outer := range outers {
				for _, inner := range inners {
					comparePair(t, outer, inner, more < less, more <= less)
				}
			}
		}
	}
}

// comparePair puts the inner operator into the left and into the right operand of the outer one.
func comparePair(t *testing.T, outer, inner string, left, right bool) {
	t.Helper()
	both := "(size " + inner + " cap)"
	bare := "size " + inner + " cap"
	plain := map[bool]string{true: both, false: bare}
	wantPlain(t, "score "+both+outer+" zone;", "score "+plain[left]+" "+outer+" zone;")
	wantPlain(t, "score zone "+outer+both+";", "score zone "+outer+" "+plain[right]+";")
	wantPlain(t, "score not"+both+outer+" -("+both+");", "score not "+both+" "+outer+" -"+both+";")
}

func TestPrintDropsBracketsThatDoNotBind(t *testing.T) {
	wantPlain(t, "score (1);", "score 1;")
	wantPlain(t, "score ("+repeat("(", 7)+"a"+repeat(")", 8)+";", "score a;")
	wantPlain(t, "score (8-3)-2;", "score 8 - 3 - 2;")
	wantPlain(t, "score ((8-3)-2)-(1-(0-(9)));", "score 8 - 3 - 2 - (1 - (0 - 9));")
	wantPlain(t, "score ((1+2))*((3));", "score (1 + 2) * 3;")
	wantPlain(t, "score -(-(-(1)));", "score ---1;")
	wantPlain(t, "score (-1)*(-2)-(-(3));", "score -1 * -2 - -3;")
	wantPlain(t, "when (not(not(true)))and(true) reject;", "when not not true and true reject;")
	wantPlain(t, "when (((size=1)))or((cap=2)and(zone<3)) reject;", "when size = 1 or cap = 2 and zone < 3 reject;")
	wantPlain(t, "let a=(1+2);let b=(a);score (b);", "let a = 1 + 2;\nlet b = a;\nscore b;")
}

func TestPrintAsksNeitherForNamesNorForKinds(t *testing.T) {
	wantPlain(t, "score x+true*dry;", "score x + true * dry;")
	wantPlain(t, "let a=a;let a=b;when 1 score not 2;", "let a = a;\nlet a = b;\nwhen 1 score not 2;")
	wantPlain(t, "let abcdefgh=lets;score whens/scores;", "let abcdefgh = lets;\nscore whens / scores;")
}

func TestPrintLong(t *testing.T) {
	wantPlain(t, "reject;"+repeat(" ", 393), "reject;")
	wantPlain(t, "score "+repeat("-", 392)+"1;", "score "+repeat("-", 392)+"1;")
	wantPlain(t, "score "+repeat("1+", 196)+"1;", "score "+repeat("1 + ", 196)+"1;")
	wantPlain(t, repeat("reject;", 57), repeat("reject;\n", 56)+"reject;")
	wantRefused(t, "reject;"+repeat(" ", 394), api.ErrLong, 0)
	wantRefused(t, repeat("@", 401), api.ErrLong, 0)
	wantRefused(t, repeat("reject;", 1000000), api.ErrLong, 0)
	wantRefused(t, repeat("@", 400), api.ErrToken, 0)
	wantRefused(t, repeat("\n", 400), api.ErrSyntax, 400)
	wantRefused(t, "score "+repeat("1+", 197), api.ErrSyntax, 400)
}

func TestNoToken(t *testing.T) {
	for policy, place := range map[string]int{
		"@": 0, "Reject;": 0, "reject;\t": 7, "reject;\r\n": 7, "score 1 ! = 2;": 8, "score 1 > 2;": 8,
		"score 1.5;": 7, "score a_b;": 7, "score a1B;": 8, "score \u00e9;": 6, "reject;\x00": 7, "score [1];": 6,
		"when true & true reject;": 10, "score \"1\";": 6, "score 1, 2;": 7,
		"score " + repeat("1", 19) + ";": 6, "score " + repeat("0", 19) + ";": 6,
		"score a" + repeat("1", 19) + ";": 7, "score " + repeat("1", 394): 6,
		"score abcdefghi;": 6, "rejectreject;": 0, "score 1abcdefghi;": 7,
	} {
		wantRefused(t, policy, api.ErrToken, place)
	}
	// A byte that begins no token is told ahead of tokens that are no policy, wherever they stand.
	wantRefused(t, ";;; let let @ reject", api.ErrToken, 12)
	wantRefused(t, "score (((((((((1))))))))); ?", api.ErrToken, 27)
}

func TestNoPolicy(t *testing.T) {
	for policy, place := range map[string]int{
		"  ": 2, ";": 0, "1;": 0, "a = 1; reject;": 0, "reject": 6, "reject ": 7, "reject;;": 7, "reject; reject": 14,
		"reject 1;": 7, "reject; 1;": 8, "reject; let a = 1; reject;": 8, "reject reject;": 7,
		"let": 3, "let ;": 4, "let 1 = 2; reject;": 4, "let let = 1; reject;": 4, "let zone = 1; reject;": 4,
		"let true = 1; reject;": 4, "let a": 5, "let a != 1; reject;": 6, "let a = let": 8, "let a = 1": 9,
		"let a = 1; ": 11, "let a = 1) ; reject;": 9, "let a = 1 score 2;": 10, "let a = ; reject;": 8,
		"when": 4, "when reject;": 5, "when true": 9, "when true;": 9, "when true when true reject;": 10,
		"when true let": 10, "when (true reject;": 11, "when true) reject;": 9, "when true reject reject;": 17,
		"score": 5, "score;": 5, "score score 1;": 6, "score 1 score 2;": 8, "score 1 2;": 8, "score 1 a;": 8,
		"score 12ab;": 8, "score a true;": 8, "score 1 (2);": 8, "score 1 not 2;": 8, "score not;": 9, "score -;": 7,
		"score +1;": 6, "score 1 + * 2;": 10, "score 1 + ;": 10, "score 1 +": 9, "score ();": 7, "score (1;": 8,
		"score (1": 8, "score 1);": 7, "score (1));": 9, "score 1 == 2;": 9, "score 1 < = 2;": 10, "score (1 reject;": 9,
		"score and 1;": 6, "score 1 and or 2;": 12, "score when;": 6, "score (;": 7, "score (1 = );": 11,
	} {
		wantRefused(t, policy, api.ErrSyntax, place)
	}
}

func TestBracketsInBrackets(t *testing.T) {
	deep := repeat("(", 8) + "1" + repeat(")", 8)
	wantPlain(t, "score "+deep+";", "score 1;")
	wantPlain(t, "score "+deep+"+"+deep+";", "score 1 + 1;")
	wantPlain(t, "score -"+deep+"*(-"+repeat("(", 7)+"1"+repeat(")", 8)+";", "score -1 * -1;")
	wantPlain(t, "let a="+deep+";score "+repeat("(", 8)+"a"+repeat(")", 8)+";", "let a = 1;\nscore a;")
	wantRefused(t, "score ("+deep+");", api.ErrSyntax, 14)
	wantRefused(t, "score "+repeat("(", 8)+"1+(2)"+repeat(")", 8)+";", api.ErrSyntax, 16)
	wantRefused(t, "score "+repeat("-(", 9)+"1"+repeat(")", 9)+";", api.ErrSyntax, 23)
	wantRefused(t, "score "+repeat("(", 9), api.ErrSyntax, 14)
	wantRefused(t, "score "+repeat("(", 8), api.ErrSyntax, 14)
}

// What is missing is missing at the text's length; what stands there instead is wrong at its own place.
func TestPlaceInEveryBeginning(t *testing.T) {
	tokens := strings.Fields("let a = - ( 1 + size ) ; let b = not ( true or ( a < 3 ) ) ; " +
		"when b and need != has score a * ( cap - used ) % 7 ; when ( b ) reject ; score - a ;")
	for n := range tokens {
		begun := strings.Join(tokens[:n], " ") + "\n"
		if n > 0 && tokens[n-1] != ";" {
			wantRefused(t, begun+"let a = 1; reject;", api.ErrSyntax, len(begun))
		}
		if n == 0 || tokens[n-1] != ";" || !strings.Contains(begun, "when") {
			wantRefused(t, begun, api.ErrSyntax, len(begun))
		}
	}
}
