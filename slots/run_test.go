package slots

import (
	"math/big"
	"strings"
	"testing"

	"slots/api"
)

func TestRunExamples(t *testing.T) {
	wantRun(t, "SL\x00\x11", someItem, someBin, rejected(1), api.OK)
	wantRun(t, "SL\x01\x01\x03\x10", someItem, someBin, scored(2, 2), api.OK)
	wantRun(t, "SL\x00\x01\x03\x10", someItem, someBin, api.Result{}, api.ErrImage)
	wantRun(t, "SL\x00\x11\x11", someItem, someBin, api.Result{}, api.ErrImage)
	wantRun(t, "SL\x00\x0d\x00\x00", someItem, someBin, api.Result{}, api.ErrImage)
}

func TestRunAttributes(t *testing.T) {
	item := api.Item{Size: 11, Speed: 12, Need: 1}
	bin := api.Bin{Id: 13, Zone: 4, Cap: 15, Used: 14, Has: 2}
	for attribute, want := range []int{11, 12, 1, 4, 15, 14, 2} {
		wantRun(t, imageOf(1, attrOp(byte(attribute)), ops(api.Score)), item, bin, scored(want, 2), api.OK)
	}
}

func TestRunInt(t *testing.T) {
	score := ops(api.Score)
	for _, v := range []int64{0, 1, -1, 127, 128, 255, 256, -256, 1 << 31, -1 << 31, 1<<62 + 3, leastInt, leastInt + 1, mostInt, mostInt - 1} {
		wantRun(t, imageOf(1, intOp(v), score), someItem, someBin, scored(int(v), 2), api.OK)
	}
	for shift := 0; shift < 8; shift++ {
		row := []byte{api.Int, 0, 0, 0, 0, 0, 0, 0, 0}
		row[1+shift] = 5
		wantRun(t, imageOf(1, string(row), score), someItem, someBin, scored(5<<(8*shift), 2), api.OK)
	}
	wantRun(t, imageOf(1, "\x00\xfe\xff\xff\xff\xff\xff\xff\xff", score), someItem, someBin, scored(-2, 2), api.OK)
}

func TestRunNumbers(t *testing.T) {
	near := []int64{0, 2, 3, 7, 10, 1 << 31, 1 << 32, 3037000499, 3037000500, 1 << 62, mostInt/2 + 1, mostInt / 3, mostInt - 1, mostInt}
	numbers := []int64{}
	for _, n := range near {
		numbers = append(numbers, n, -n, n-1, -n-1)
	}
	for _, left := range numbers {
		for code := api.Neg; code <= api.Not; code++ {
			worth, fault := refWorth(code, nil, big.NewInt(left))
			checkNumber(t, imageOf(1, intOp(left), ops(byte(code)), ops(api.Score)), worth, fault, 2)
		}
		for _, right := range numbers {
			for code := api.Add; code <= api.Other; code++ {
				worth, fault := refWorth(code, big.NewInt(left), big.NewInt(right))
				checkNumber(t, imageOf(2, intOp(left), intOp(right), ops(byte(code)), ops(api.Score)), worth, fault, 3)
			}
		}
	}
}

func checkNumber(t *testing.T, image string, worth *big.Int, fault int, steps int) {
	t.Helper()
	want := faulted(fault, steps)
	if fault == 0 {
		want = scored(int(worth.Int64()), steps+1)
	}
	if got, err := Run(image, someItem, someBin); got != want || err != api.OK {
		t.Errorf("P6: Run(%q) = %v, %d, want %v", image, got, err, want)
	}
}

func TestRunDivision(t *testing.T) {
	for _, c := range []struct {
		left  int64
		code  byte
		right int64
		want  api.Result
	}{
		{-7, api.Div, 2, scored(-3, 4)}, {-7, api.Mod, 2, scored(-1, 4)}, {7, api.Div, -2, scored(-3, 4)}, {7, api.Mod, -2, scored(1, 4)},
		{-7, api.Div, -2, scored(3, 4)}, {-7, api.Mod, -2, scored(-1, 4)}, {1, api.Div, 2, scored(0, 4)}, {-1, api.Div, 2, scored(0, 4)},
		{5, api.Div, 0, faulted(api.ByZero, 3)}, {5, api.Mod, 0, faulted(api.ByZero, 3)}, {0, api.Mod, 0, faulted(api.ByZero, 3)},
		{leastInt, api.Div, 0, faulted(api.ByZero, 3)}, {leastInt, api.Mod, 0, faulted(api.ByZero, 3)},
		{leastInt, api.Div, -1, faulted(api.Overflow, 3)}, {leastInt, api.Mod, -1, faulted(api.Overflow, 3)},
		{leastInt + 1, api.Div, -1, scored(mostInt, 4)}, {leastInt + 1, api.Mod, -1, scored(0, 4)}, {leastInt, api.Mod, 1, scored(0, 4)},
	} {
		wantRun(t, imageOf(2, intOp(c.left), intOp(c.right), ops(c.code), ops(api.Score)), someItem, someBin, c.want, api.OK)
	}
}

func TestRunJumps(t *testing.T) {
	score := ops(api.Score)
	for _, v := range []int64{0, 1, -1, 2, 256, 1 << 32, leastInt, mostInt} {
		ifFalse := imageOf(1, intOp(v), jumpOp(api.IfFalse, 12), intOp(5), jumpOp(api.Jump, 9), intOp(6), score)
		ifTrue := imageOf(1, intOp(v), jumpOp(api.IfTrue, 12), intOp(5), jumpOp(api.Jump, 9), intOp(6), score)
		if v == 0 {
			wantRun(t, ifFalse, someItem, someBin, scored(6, 4), api.OK)
			wantRun(t, ifTrue, someItem, someBin, scored(5, 5), api.OK)
		} else {
			wantRun(t, ifFalse, someItem, someBin, scored(5, 5), api.OK)
			wantRun(t, ifTrue, someItem, someBin, scored(6, 4), api.OK)
		}
		wantRun(t, imageOf(1, intOp(v), jumpOp(api.IfTrue, 0), intOp(8), score), someItem, someBin, scored(8, 4), api.OK)
	}
	// A jump takes what it asks for, and nothing below it.
	wantRun(t, imageOf(2, intOp(3), intOp(0), jumpOp(api.IfTrue, 1), ops(api.Neg), score), someItem, someBin, scored(-3, 5), api.OK)
	wantRun(t, imageOf(2, intOp(3), intOp(1), jumpOp(api.IfTrue, 1), ops(api.Neg), score), someItem, someBin, scored(3, 4), api.OK)
	filler := strings.Repeat(attrOp(0)+jumpOp(api.IfTrue, 0), 300)
	wantRun(t, imageOf(1, intOp(1), jumpOp(api.IfTrue, len(filler)), filler, ops(api.Reject)), someItem, someBin, rejected(3), api.OK)
	wantRun(t, imageOf(1, intOp(0), jumpOp(api.IfTrue, len(filler)), filler, ops(api.Reject)), someItem, someBin, rejected(603), api.OK)
}

func TestRunStack(t *testing.T) {
	// What is left on the stack at the end means nothing, nor do faults that are not come to.
	wantRun(t, imageOf(3, intOp(1), intOp(2), intOp(3), ops(api.Score)), someItem, someBin, scored(3, 4), api.OK)
	wantRun(t, imageOf(3, intOp(1), intOp(2), intOp(3), ops(api.Reject)), someItem, someBin, rejected(4), api.OK)
	wantRun(t, imageOf(3, intOp(10), intOp(7), intOp(2), ops(api.Sub, api.Sub, api.Score)), someItem, someBin, scored(5, 6), api.OK)
	wantRun(t, imageOf(2, intOp(1), intOp(0), ops(api.Div, api.Neg, api.Not, api.Score)), someItem, someBin, faulted(api.ByZero, 3), api.OK)
	wantRun(t, imageOf(2, jumpOp(api.Jump, 0), intOp(1), jumpOp(api.IfTrue, 20), intOp(1), intOp(0), ops(api.Div, api.Score), ops(api.Reject)), someItem, someBin, rejected(4), api.OK)
	deep := strings.Repeat(intOp(1), 255) + strings.Repeat(ops(api.Add), 254) + ops(api.Score)
	wantRun(t, imageOf(255, deep), someItem, someBin, scored(255, 510), api.OK)
	wantRun(t, imageOf(254, deep), someItem, someBin, api.Result{}, api.ErrImage)
	long := imageOf(1, attrOp(0), strings.Repeat(ops(api.Neg), 3994), ops(api.Score))
	wantRun(t, long, someItem, someBin, scored(5, 3996), api.OK)
}

const rejects = "SL\x00\x11"

func TestRunItems(t *testing.T) {
	for _, item := range []api.Item{
		{Size: 1}, {Size: 1000}, {Size: 1, Speed: 1}, {Size: 1, Speed: 1000}, {Size: 1, Need: 1}, {Size: 1, Need: 2}, {Size: 1000, Speed: 1000, Need: 2},
	} {
		wantRun(t, rejects, item, someBin, rejected(1), api.OK)
		wantRun(t, rejects, item, api.Bin{}, api.Result{}, api.ErrBin)
	}
	for _, item := range []api.Item{
		{}, {Size: 0, Speed: 1, Need: 1}, {Size: -1}, {Size: 1001}, {Size: leastInt}, {Size: mostInt}, {Size: 1, Speed: -1}, {Size: 1, Speed: 1001},
		{Size: 1, Speed: leastInt}, {Size: 1, Speed: mostInt}, {Size: 1, Need: -1}, {Size: 1, Need: 3}, {Size: 1, Need: leastInt}, {Size: 1, Need: mostInt},
	} {
		wantRun(t, rejects, item, someBin, api.Result{}, api.ErrItem)
		wantRun(t, rejects, item, api.Bin{}, api.Result{}, api.ErrItem)
		wantRun(t, "SL\x00\x10", item, api.Bin{}, api.Result{}, api.ErrImage)
	}
}

func TestRunBins(t *testing.T) {
	for _, bin := range []api.Bin{
		{Cap: 1}, {Cap: 1000}, {Id: 1000, Cap: 1}, {Cap: 1, Zone: 9}, {Cap: 1, Used: 1}, {Cap: 1000, Used: 1000}, {Cap: 5, Has: 1}, {Cap: 5, Has: 2},
	} {
		wantRun(t, rejects, someItem, bin, rejected(1), api.OK)
	}
	for _, bin := range []api.Bin{
		{}, {Cap: 0, Used: 0}, {Cap: -1}, {Cap: -1, Used: -1}, {Cap: 1001}, {Cap: leastInt}, {Cap: mostInt}, {Id: -1, Cap: 1}, {Id: 1001, Cap: 1},
		{Id: leastInt, Cap: 1}, {Id: mostInt, Cap: 1}, {Cap: 1, Zone: -1}, {Cap: 1, Zone: 10}, {Cap: 1, Zone: leastInt}, {Cap: 1, Zone: mostInt},
		{Cap: 5, Used: 6}, {Cap: 5, Used: -1}, {Cap: 1000, Used: 1001}, {Cap: 5, Used: leastInt}, {Cap: 5, Used: mostInt},
		{Cap: 5, Has: -1}, {Cap: 5, Has: 3}, {Cap: 5, Has: leastInt}, {Cap: 5, Has: mostInt},
	} {
		wantRun(t, rejects, someItem, bin, api.Result{}, api.ErrBin)
		wantRun(t, "SL\x00\x10", someItem, bin, api.Result{}, api.ErrImage)
	}
}
