package slots

import (
	"strings"
	"testing"

	"slots/api"
)

func TestVerifyExamples(t *testing.T) {
	wantVerify(t, "SL\x00\x11", api.OK)
	wantVerify(t, "SL\x01\x01\x03\x10", api.OK)
	wantVerify(t, "SL\x00\x01\x03\x10", api.ErrImage)
	wantVerify(t, "SL\x00\x11\x11", api.ErrImage)
	wantVerify(t, "SL\x00\x0d\x00\x00", api.ErrImage)
}

func TestVerifyHead(t *testing.T) {
	for _, image := range []string{
		"", "S", "SL", "SL\x00", "SL\x11", "SL\xff", "\x00\x11", "S\x00\x11", "L\x00\x11", "LS\x00\x11", "sl\x00\x11", "Sl\x00\x11", "sL\x00\x11",
		"SS\x00\x11", "LL\x00\x11", " SL\x00\x11", "SL\x00\x11 ", "SL\x00\x11\x00",
	} {
		wantVerify(t, image, api.ErrImage)
	}
	wantVerify(t, "SL\xff\x11", api.OK)
	wantVerify(t, "SLS\x11", api.OK)
}

func TestVerifyOperations(t *testing.T) {
	for code := 0; code < 256; code++ {
		want := api.ErrImage
		if code >= api.Neg && code <= api.Other || code == api.Score || code == api.Reject {
			want = api.OK
		}
		ending := ops(api.Reject)
		if code == api.Score || code == api.Reject {
			ending = ""
		}
		wantVerify(t, imageOf(2, attrOp(0), attrOp(0), ops(byte(code)), ending), want)
	}
	for attribute := 0; attribute < 256; attribute++ {
		want := api.ErrImage
		if attribute <= api.Has {
			want = api.OK
		}
		wantVerify(t, imageOf(1, attrOp(byte(attribute)), ops(api.Score)), want)
	}
}

func TestVerifyCutOff(t *testing.T) {
	for _, operation := range []string{intOp(0), intOp(-1), attrOp(0), jumpOp(api.Jump, 0), jumpOp(api.IfFalse, 0), jumpOp(api.IfTrue, 0)} {
		whole := imageOf(3, attrOp(1), attrOp(1), operation)
		wantVerify(t, whole+ops(api.Reject), api.OK)
		for end := 0; end <= len(whole); end++ {
			wantVerify(t, whole[:end], api.ErrImage)
		}
	}
}

func TestVerifyTakes(t *testing.T) {
	for code, takes := range []int{0, 0, 1, 1, 2, 2, 2, 2, 2, 2, 2, 2, 2, 0, 1, 1, 1, 0} {
		operation := ops(byte(code)) + strings.Repeat("\x00", []int{8, 1, 0, 0, 0, 0, 0, 0, 0, 0, 0, 0, 0, 2, 2, 2, 0, 0}[code])
		ending := ops(api.Reject)
		if code == api.Score || code == api.Reject {
			ending = ""
		}
		for height := 0; height <= 3; height++ {
			want := api.ErrImage
			if height >= takes {
				want = api.OK
			}
			wantVerify(t, imageOf(9, strings.Repeat(attrOp(2), height), operation, ending), want)
		}
	}
}

func TestVerifyHeights(t *testing.T) {
	for high := 0; high < 256; high++ {
		wantVerify(t, imageOf(high, strings.Repeat(attrOp(0), high), ops(api.Reject)), api.OK)
		wantVerify(t, imageOf(high, strings.Repeat(attrOp(0), high+1), ops(api.Reject)), api.ErrImage)
		wantVerify(t, imageOf(high, strings.Repeat(intOp(1), high), ops(api.Reject)), api.OK)
		if high > 0 {
			wantVerify(t, imageOf(high-1, strings.Repeat(intOp(1), high), ops(api.Reject)), api.ErrImage)
			// What an operation takes makes room for what it lays.
			wantVerify(t, imageOf(high, strings.Repeat(attrOp(0), high), ops(api.Neg), jumpOp(api.IfTrue, 0), ops(api.Reject)), api.OK)
		}
	}
}

func TestVerifyJumps(t *testing.T) {
	reject := ops(api.Reject)
	// At the two Ints behind this jump the stack is empty, as behind it; at the jump between them it is not.
	behind := intOp(0) + jumpOp(api.IfTrue, 0) + intOp(5) + ops(api.Score)
	for distance := 0; distance < 65536; distance++ {
		want := api.ErrImage
		if distance == 0 || distance == 12 {
			want = api.OK
		}
		image := imageOf(1, attrOp(0), jumpOp(api.IfFalse, distance), behind)
		if (Verify(image) == api.OK) != (want == api.OK) {
			t.Fatalf("P5: Verify(%q) = %d", image, Verify(image))
		}
	}
	for distance := 0; distance < 65536; distance++ {
		image := imageOf(1, jumpOp(api.Jump, distance), reject)
		if (Verify(image) == api.OK) != (distance == 0) {
			t.Fatalf("P5: Verify(%q) = %d", image, Verify(image))
		}
	}
	// Far jumps: the high byte counts.
	filler := strings.Repeat(attrOp(0)+jumpOp(api.IfTrue, 0), 300)
	wantVerify(t, imageOf(1, attrOp(0), jumpOp(api.IfTrue, len(filler)), filler, reject), api.OK)
	wantVerify(t, imageOf(1, attrOp(0), jumpOp(api.IfTrue, len(filler)+1), filler, reject), api.ErrImage)
	wantVerify(t, imageOf(1, attrOp(0), jumpOp(api.IfTrue, len(filler)-1), filler, reject), api.ErrImage)
	wantVerify(t, imageOf(1, attrOp(0), jumpOp(api.IfTrue, len(filler)-256), filler, reject), api.ErrImage)
	wantVerify(t, imageOf(1, attrOp(0), jumpOp(api.IfTrue, len(filler)-255), filler, reject), api.OK)
}

func TestVerifyMeetingWays(t *testing.T) {
	reject, score := ops(api.Reject), ops(api.Score)
	// Both ways meet with one number, with one and none, with one and two.
	wantVerify(t, imageOf(1, attrOp(0), jumpOp(api.IfTrue, 5), attrOp(1), jumpOp(api.Jump, 2), attrOp(2), score), api.OK)
	wantVerify(t, imageOf(1, attrOp(0), jumpOp(api.IfTrue, 5), attrOp(1), jumpOp(api.Jump, 0), reject), api.ErrImage)
	wantVerify(t, imageOf(2, attrOp(0), jumpOp(api.IfTrue, 2), attrOp(1), reject), api.ErrImage)
	wantVerify(t, imageOf(9, attrOp(0), attrOp(0), jumpOp(api.IfTrue, 1), ops(api.Neg), score), api.OK)
	wantVerify(t, imageOf(9, attrOp(0), attrOp(0), attrOp(0), jumpOp(api.IfTrue, 1), ops(api.Add), score), api.ErrImage)
	// What is behind an end or a Jump has to be jumped at.
	wantVerify(t, imageOf(1, attrOp(0), score, reject), api.ErrImage)
	wantVerify(t, imageOf(1, reject, reject), api.ErrImage)
	wantVerify(t, imageOf(1, jumpOp(api.Jump, 1), reject, reject), api.ErrImage)
	wantVerify(t, imageOf(1, attrOp(0), jumpOp(api.IfFalse, 1), reject, reject), api.OK)
	wantVerify(t, imageOf(1, attrOp(0), jumpOp(api.IfFalse, 1), reject, attrOp(0), score), api.OK)
	wantVerify(t, imageOf(1, attrOp(0), jumpOp(api.IfFalse, 3), jumpOp(api.Jump, 1), reject, reject), api.OK)
	wantVerify(t, imageOf(1, attrOp(0), jumpOp(api.IfFalse, 4), jumpOp(api.Jump, 1), reject, reject), api.ErrImage)
	// What only an operation that is itself not reached leads to.
	wantVerify(t, imageOf(1, jumpOp(api.Jump, 3), jumpOp(api.Jump, 1), reject, reject), api.ErrImage)
}

func TestVerifyLength(t *testing.T) {
	for _, negs := range []int{0, 1, 3993, 3994} {
		wantVerify(t, imageOf(1, attrOp(0), strings.Repeat(ops(api.Neg), negs), ops(api.Score)), api.OK)
	}
	for _, negs := range []int{3995, 3996, 5000, 100000} {
		wantVerify(t, imageOf(1, attrOp(0), strings.Repeat(ops(api.Neg), negs), ops(api.Score)), api.ErrImage)
	}
	ahead := attrOp(0) + jumpOp(api.IfTrue, 3988)
	filler := strings.Repeat(intOp(0)+ops(api.Not)+jumpOp(api.IfTrue, 0), 306) + strings.Repeat(attrOp(0)+jumpOp(api.IfTrue, 0), 2)
	if len(filler) != 3988 {
		t.Fatalf("%d bytes", len(filler))
	}
	wantVerify(t, imageOf(1, ahead, filler, ops(api.Reject)), api.OK)
	wantVerify(t, imageOf(1, ahead, filler, ops(api.Not), ops(api.Reject)), api.ErrImage)
}
