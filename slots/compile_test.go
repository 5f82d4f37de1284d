package slots

import (
	"math/rand"
	"strings"
	"testing"

	"slots/api"
)

var (
	coldItem = api.Item{Size: 5, Speed: 0, Need: api.Cold}
	dryItem  = api.Item{Size: 5, Speed: 3, Need: api.Dry}
	coldBin  = api.Bin{Id: 3, Zone: 2, Cap: 20, Used: 4, Has: api.Cold}
	zeroBin  = api.Bin{Id: 4, Zone: 0, Cap: 20, Used: 4, Has: api.Cold}
)

const (
	shop = "when cap - used < size reject; when need != has reject; score 100 / zone;"
	// least is the least number of 64 bits.
	least = "let least = 0 - 9223372036854775 * 1000 - 808; "
	most  = "let most = 9223372036854775 * 1000 + 807; "
)

// wantSays asks that the image of a policy is one, and ends as is said with no more steps than are said.
func wantSays(t *testing.T, policy string, item api.Item, bin api.Bin, want api.Result) {
	t.Helper()
	image := wantImage(t, policy)
	got, err := Run(image, item, bin)
	if err != api.OK || got.Kind != want.Kind || got.Value != want.Value || got.Steps > want.Steps {
		t.Errorf("P7: %q, image %q, with %v, %v: %v, %d, want %v", policy, image, item, bin, got, err, want)
	}
	if got := refSays(refRules(policy), item, bin); got != want {
		t.Errorf("the second reading of %q with %v, %v = %v, want %v", policy, item, bin, got, want)
	}
}

func wantImage(t *testing.T, policy string) string {
	t.Helper()
	image, err, at := Compile(policy)
	if err != api.OK || at != 0 {
		t.Fatalf("P7: Compile(%q) = %q, %d, %d", policy, image, err, at)
	}
	if Verify(image) != api.OK || !refIsImage(image) {
		t.Fatalf("P7: Compile(%q) = %q, which is no image", policy, image)
	}
	if again, _, _ := Compile(policy); again != image {
		t.Fatalf("P7: Compile(%q) = %q, and then %q", policy, image, again)
	}
	return image
}

func TestCompileExamples(t *testing.T) {
	wantSays(t, shop, coldItem, coldBin, scored(50, 14))
	wantSays(t, shop, coldItem, zeroBin, faulted(api.ByZero, 13))
	wantSays(t, shop, dryItem, coldBin, rejected(11))
	wantSays(t, "when 1 < 2 score 3 + 4; reject;", dryItem, coldBin, scored(7, 2))
}

func TestCompileRules(t *testing.T) {
	for _, c := range []struct {
		policy string
		want   api.Result
	}{
		{"reject;", rejected(1)},
		{"score 7;", scored(7, 2)},
		{"score 0;", scored(0, 2)},
		{"score zone;", scored(2, 2)},
		{"reject; score 1;", rejected(1)},
		{"score 1; reject;", scored(1, 2)},
		{"score 1; score 1/0;", scored(1, 2)},
		{"when zone = 2 score 1; score 2;", scored(1, 6)},
		{"when zone = 3 score 1; score 2;", scored(2, 6)},
		{"when zone = 3 score 1;", rejected(5)},
		{"when zone = 2 reject;", rejected(5)},
		{"when zone = 1 reject; when zone = 2 score 4; when zone = 3 reject;", scored(4, 10)},
		{"when zone = 1 reject; when zone = 3 score 4;", rejected(9)},
		// A `when` that is known takes no steps; no rule behind one that always applies is looked at.
		{"when true reject;", rejected(1)},
		{"when false reject;", rejected(1)},
		{"when false score 1;", rejected(1)},
		{"when false score 1/0; score zone;", scored(2, 2)},
		{"when true score zone; score 1/0;", scored(2, 2)},
		{"when false score 1; when true score 2; when true score 3;", scored(2, 2)},
		{"when zone = 2 score 4; when true reject; score zone;", scored(4, 6)},
		{"when zone = 3 score 4; when true reject; score zone;", rejected(5)},
		{"when zone = 3 score 4; when false reject; score zone;", scored(2, 6)},
		{"when dry = cold score 1; when dry != cold score 2; score 3;", scored(2, 2)},
		{"when true and not false score 1;", scored(1, 2)},
		{"let t = 1 < 2; when t score 1;", scored(1, 2)},
		{"let t = 1 < 2; let f = not t; when f score 1; score 2;", scored(2, 2)},
		// One that has an attribute takes them, even if nothing hangs on it.
		{"when true or size = 1 score 1;", scored(1, 6)},
		{"when false and size = 1 score 1;", rejected(5)},
		// One that faults takes them up to the fault.
		{"when 1/0 = 1 reject; score 1;", faulted(api.ByZero, 3)},
		{"when false reject; when 1/0 = 1 reject; score 1;", faulted(api.ByZero, 3)},
		{"when zone = 3 reject; when 1/0 = 1 reject; score 1;", faulted(api.ByZero, 7)},
		{"when zone / 0 = 1 reject; score 1;", faulted(api.ByZero, 3)},
	} {
		wantSays(t, c.policy, dryItem, coldBin, c.want)
	}
}

func TestCompileExprs(t *testing.T) {
	for _, c := range []struct {
		policy string
		want   api.Result
	}{
		// Each attribute.
		{"score size;", scored(5, 2)},
		{"score speed;", scored(3, 2)},
		{"score zone;", scored(2, 2)},
		{"score cap;", scored(20, 2)},
		{"score used;", scored(4, 2)},
		{"when need = dry score 1;", scored(1, 6)},
		{"when need = cold score 1;", rejected(5)},
		{"when has = cold score 1;", scored(1, 6)},
		{"when has = safe score 1;", rejected(5)},
		{"when safe = need score 1;", rejected(5)},
		// Each operator, with attributes and without.
		{"score size + speed;", scored(8, 4)},
		{"score size - speed;", scored(2, 4)},
		{"score size * speed;", scored(15, 4)},
		{"score size / speed;", scored(1, 4)},
		{"score size % speed;", scored(2, 4)},
		{"score -size;", scored(-5, 3)},
		{"score --size;", scored(5, 4)},
		{"score -size / zone;", scored(-2, 5)},
		{"score -size % zone;", scored(-1, 5)},
		{"score 7 + 2;", scored(9, 2)},
		{"score 7 - 9;", scored(-2, 2)},
		{"score 7 * 2;", scored(14, 2)},
		{"score -7 / 2;", scored(-3, 2)},
		{"score -7 % 2;", scored(-1, 2)},
		{"score --7;", scored(7, 2)},
		{"when size < speed score 1; when speed < size score 2;", scored(2, 10)},
		{"when size <= speed score 1; when size <= size score 2;", scored(2, 10)},
		{"when size != size score 1; when size = size score 2;", scored(2, 10)},
		{"when 1 < 1 score 1; when 2 <= 1 score 2; when 1 = 2 score 3; when 1 != 1 score 4; when 1 <= 1 score 5;", scored(5, 2)},
		{"when not (need = has) score 1; score 2;", scored(1, 7)},
		{"when (zone = 2) = true score 1;", scored(1, 8)},
		{"when (zone = 2) != (size = 5) score 1;", rejected(9)},
		// What binds more, and the left one of a line.
		{"score 8 - 3 - zone;", scored(3, 4)},
		{"score zone - 3 - 8;", scored(-9, 6)},
		{"score 8 - (3 - zone);", scored(7, 6)},
		{"score zone + 2 * 3;", scored(8, 4)},
		{"score zone * 2 + 3;", scored(7, 6)},
		{"score 1 + zone * 0;", scored(1, 6)},
		// NAMEs.
		{"let a = zone; score a;", scored(2, 2)},
		{"let a = zone - 1; score 10 - a;", scored(9, 6)},
		{"let a = 1 + 2; score a * a;", scored(9, 2)},
		{"let a = zone; let b = a - 1; score b * b;", scored(1, 8)},
		{"let a = 1/0; score zone;", scored(2, 2)},
		{"let a = 1/0; score a;", faulted(api.ByZero, 3)},
		{"let a = 7; let b = a; score b;", scored(7, 2)},
		{"score 999999999999999999;", scored(999999999999999999, 2)},
		{"score 000000000000000012;", scored(12, 2)},
		{"score 256;", scored(256, 2)},
		{"score -255;", scored(-255, 2)},
		{most + "score most;", scored(mostInt, 2)},
		{least + "score least;", scored(leastInt, 2)},
	} {
		wantSays(t, c.policy, dryItem, coldBin, c.want)
	}
}

func TestCompileChoices(t *testing.T) {
	for _, c := range []struct {
		when string
		want api.Result
	}{
		{"zone = 2 and size = 5", scored(1, 11)},
		{"zone = 2 and size = 6", scored(0, 11)},
		{"zone = 3 and size = 5", scored(0, 8)},
		{"zone = 3 and 1 / 0 = 1", scored(0, 8)},
		{"zone = 2 and 1 / 0 = 1", faulted(api.ByZero, 7)},
		{"zone = 2 or size = 6", scored(1, 8)},
		{"zone = 3 or size = 5", scored(1, 11)},
		{"zone = 3 or size = 6", scored(0, 11)},
		{"zone = 2 or 1 / 0 = 1", scored(1, 8)},
		{"zone = 3 or 1 / 0 = 1", faulted(api.ByZero, 7)},
		{"true and zone = 2", scored(1, 9)},
		{"false and zone = 2", scored(0, 6)},
		{"true or zone = 2", scored(1, 6)},
		{"false or zone = 2", scored(1, 9)},
		{"zone = 2 and true", scored(1, 9)},
		{"zone = 2 and false", scored(0, 9)},
		{"zone = 2 or false", scored(1, 8)},
		{"true and true", scored(1, 2)},
		{"true and false", scored(0, 2)},
		{"false or true", scored(1, 2)},
		{"false or false", scored(0, 2)},
		{"false and 1 / 0 = 1", scored(0, 2)},
		{"true or 1 / 0 = 1", scored(1, 2)},
		{"true and 1 / 0 = 1", faulted(api.ByZero, 5)},
		{"false or 1 / 0 = 1", faulted(api.ByZero, 5)},
		{"1 / 0 = 1 and false", faulted(api.ByZero, 3)},
		{"1 / 0 = 1 or true", faulted(api.ByZero, 3)},
		{"zone = 2 and (false and 1 / 0 = 1)", scored(0, 9)},
		{"zone = 2 and size = 5 and speed = 3", scored(1, 16)},
		{"zone = 3 and size = 5 or speed = 3", scored(1, 13)},
		{"need = safe or has = cold and not false", scored(1, 14)},
		{"not (zone = 2 and size = 6)", scored(1, 12)},
		{"(zone = 2 and true) = (zone = 3 or true)", scored(1, 16)},
	} {
		wantSays(t, "when "+c.when+" score 1; score 0;", dryItem, coldBin, c.want)
		wantSays(t, "let a = "+c.when+"; when a score 1; score 0;", dryItem, coldBin, c.want)
	}
}

func TestCompileFaults(t *testing.T) {
	for _, c := range []struct {
		policy string
		want   api.Result
	}{
		{"score 1 / 0;", faulted(api.ByZero, 3)},
		{"score 1 % 0;", faulted(api.ByZero, 3)},
		{"score zone / (size - 5);", faulted(api.ByZero, 5)},
		{"score zone % (size - 5);", faulted(api.ByZero, 5)},
		{"score 1 / 0 + zone;", faulted(api.ByZero, 3)},
		{"score zone + 1 / 0;", faulted(api.ByZero, 4)},
		{"score -(1 / 0);", faulted(api.ByZero, 3)},
		{"score (2 + 3) / (4 - 4) * (5 + 6);", faulted(api.ByZero, 3)},
		{"score zone/0 + 999999999999999999 * 999999999999999999;", faulted(api.ByZero, 3)},
		{"score 999999999999999999 * 999999999999999999 + zone/0;", faulted(api.Overflow, 3)},
		{least + "score -least;", faulted(api.Overflow, 2)},
		{least + "score -(least + (zone - 2));", faulted(api.Overflow, 6)},
		{least + "score least - 1;", faulted(api.Overflow, 3)},
		{least + "score least - zone;", faulted(api.Overflow, 3)},
		{least + "score least / -1;", faulted(api.Overflow, 3)},
		{least + "score least % -1;", faulted(api.Overflow, 3)},
		{least + "score least / (zone - 3);", faulted(api.Overflow, 5)},
		{least + "score least % (zone - 3);", faulted(api.Overflow, 5)},
		{least + "score least * (zone - 3);", faulted(api.Overflow, 5)},
		{most + "score most + 1;", faulted(api.Overflow, 3)},
		{most + "score most + zone;", faulted(api.Overflow, 3)},
		{most + "score most * zone;", faulted(api.Overflow, 3)},
		{most + "score -most - zone;", faulted(api.Overflow, 3)},
		{most + "score -most - 1;", scored(leastInt, 2)},
		{least + "score least + 1;", scored(leastInt+1, 2)},
	} {
		wantSays(t, c.policy, dryItem, coldBin, c.want)
	}
}

func TestCompileErrors(t *testing.T) {
	for _, c := range []struct {
		policy string
		err    api.Errno
		at     int
	}{
		{strings.Repeat(" ", 401), api.ErrLong, 0},
		{"reject;" + strings.Repeat(" ", 394), api.ErrLong, 0},
		{"score 1 @", api.ErrToken, 8},
		{"score 1234567890123456789;", api.ErrToken, 6},
		{"", api.ErrSyntax, 0},
		{"score 1", api.ErrSyntax, 7},
		{"score 1; let a = 2;", api.ErrSyntax, 9},
		{"score x;", api.ErrName, 6},
		{"let a = a; reject;", api.ErrName, 8},
		{"reject; score x;", api.ErrName, 14},
		{"score true;", api.ErrType, 6},
		{"when false score 1 + (2 < 3);", api.ErrType, 19},
		{"let a = 1 and 2; reject;", api.ErrType, 10},
		{"score 1" + strings.Repeat("+1", 75) + ";", api.ErrBig, 0},
		{"when false reject; reject; score 1" + strings.Repeat("+1", 75) + ";", api.ErrBig, 0},
	} {
		if image, err, at := Compile(c.policy); image != "" || err != c.err || at != c.at {
			t.Errorf("P7: Compile(%.60q) = %q, %d, %d, want %d, %d", c.policy, image, err, at, c.err, c.at)
		}
	}
}

// nested makes LETs, the last of which is the NAME, of operands that stand in one another to the right.
func nested(left string, inner string, levels int) string {
	text := "let a = " + inner + ";"
	name := "a"
	for levels > 0 {
		n := min(levels, 8)
		levels -= n
		next := string(name[0] + 1)
		text += "let " + next + "=" + left + strings.Repeat("("+left, n-1) + name + strings.Repeat(")", n-1) + ";"
		name = next
	}
	return text + "score " + name + ";"
}

func TestCompileGreat(t *testing.T) {
	many := "let a=zone<1;let b=a or a;let c=b or b;let d=c or c;let e=d or d;"
	for _, policy := range []string{
		nested("1-", "zone", 60),
		nested("1-", "zone", 1),
		nested("2-", "1/0", 60),
		"score " + strings.Repeat("1+(", 8) + "zone" + strings.Repeat(")", 8) + ";",
		"score " + strings.Repeat("zone-", 74) + "1;",
		"score 1" + strings.Repeat("+1", 74) + ";",
		"when " + strings.Repeat("zone=1or ", 36) + "true score 1;",
		"when " + strings.Repeat("zone=1and ", 36) + "true score 1;",
		"when " + strings.Repeat("not ", 90) + "(zone = 2) score 1;",
		many + "when e or e score 1;",
		many + "when e and d and c and b score 1;",
		strings.Repeat("when zone=0reject;", 22),
		"let a=zone=0;" + strings.Repeat("when a score 1;", 25) + "reject;",
		strings.Repeat("reject;", 57),
		"let a=size;let b=a+a;let c=b+b;let d=c+c;let e=d+d;let f=e+e;let g=f+f;let h=g+g;let i=h+h;let j=i+i;" +
			"let k=j+j;let l=k+k;let m=l+l;let n=m+m;let o=n+n;let p=o+o;let q=p+p;let r=q+q;let s=r+r;let t=s+s;" +
			"let u=t+t;let v=u+u;let w=v+v;let x=w+w;let y=x+x;let z=y+y;let aa=z+z;let bb=aa+aa;let cc=bb+bb;score b;",
	} {
		for _, bin := range []api.Bin{coldBin, zeroBin} {
			wantSays(t, policy, dryItem, bin, refSays(refRules(policy), dryItem, bin))
		}
	}
}

// compareCompiled holds Compile against the second reading, and tells what the policy says for the items and bins.
func compareCompiled(t *testing.T, policy string, items []api.Item, bins []api.Bin) []api.Result {
	t.Helper()
	if err, at := Check(policy); err != api.OK {
		image, gotErr, gotAt := Compile(policy)
		if image != "" || gotErr != err || gotAt != at {
			t.Fatalf("P7: Compile(%q) = %q, %d, %d, want %d, %d", policy, image, gotErr, gotAt, err, at)
		}
		return nil
	}
	image := wantImage(t, policy)
	rules := refRules(policy)
	said := []api.Result{}
	for i := range items {
		want := refSays(rules, items[i], bins[i])
		got, err := Run(image, items[i], bins[i])
		if err != api.OK || got.Kind != want.Kind || got.Value != want.Value || got.Steps > want.Steps {
			t.Fatalf("P7: %q, image %q, with %v, %v: %v, %d, want %v", policy, image, items[i], bins[i], got, err, want)
		}
		said = append(said, want)
	}
	return said
}

func TestAllShortCompiled(t *testing.T) {
	items := []api.Item{coldItem, dryItem, dryItem}
	bins := []api.Bin{coldBin, coldBin, zeroBin}
	sound := 0
	for _, c := range []struct {
		before, pieces, after string
		length                int
	}{
		{"score ", "zone 1 0 a - / %", ";", 5},
		{"when ", "zone < 1 true and or not = (1/0=1)", "score 1;", 5},
		{"when zone = 2 ", "true when score reject ; 7", ";", 5},
		{"", "when(zone=0) when(true) when(false) when(1/0=0) reject; score(zone);", "reject;", 5},
	} {
		pieces := strings.Fields(c.pieces)
		rows := []string{""}
		for range c.length {
			longer := []string{}
			for _, row := range rows {
				for _, piece := range pieces {
					longer = append(longer, row+piece+" ")
					if compareCompiled(t, "let a = 0;"+c.before+row+piece+" "+c.after, items, bins) != nil {
						sound++
					}
				}
			}
			rows = longer
		}
	}
	if sound < 2000 {
		t.Errorf("only %d policies", sound)
	}
}

func TestManyCompiled(t *testing.T) {
	m := &maker{Rand: rand.New(rand.NewSource(4))}
	with := imager{m.Rand}
	seen := map[[2]int]int{}
	for i := range 30000 {
		policy := m.policy()
		if i%6 == 0 {
			policy = strings.ReplaceAll(m.heavy(), "let a = 1 ;", "let a = size - 5 ;")
		}
		items := []api.Item{}
		bins := []api.Bin{}
		for range 6 {
			items = append(items, with.item())
			bins = append(bins, with.bin())
		}
		items[0], bins[0] = dryItem, zeroBin
		for _, result := range compareCompiled(t, policy, items, bins) {
			kind := [2]int{result.Kind, 0}
			if result.Kind == api.Faulted {
				kind[1] = result.Value
			}
			seen[kind]++
		}
	}
	for _, kind := range [][2]int{{api.Rejected, 0}, {api.Scored, 0}, {api.Faulted, api.Overflow}, {api.Faulted, api.ByZero}} {
		if seen[kind] < 1000 {
			t.Errorf("the end %v came %d times: too seldom to be tested", kind, seen[kind])
		}
	}
}
