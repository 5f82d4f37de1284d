package slots

import (
	"math/big"

	"slots/api"
)

// A second, slow reading of images, by the words of the document, with numbers that have no bound.

type refOp struct {
	place, behind int
	code          int
	value         *big.Int
}

// refOps cuts the bytes behind the first three into operations; nil, if they are none.
func refOps(image string) []refOp {
	ops := []refOp{}
	for place := 3; place < len(image); {
		code := int(image[place])
		size := 0
		switch {
		case code == api.Int:
			size = 8
		case code == api.Attr:
			size = 1
		case code == api.Jump || code == api.IfFalse || code == api.IfTrue:
			size = 2
		case code > api.Reject:
			return nil
		}
		behind := place + 1 + size
		if behind > len(image) {
			return nil
		}
		value := new(big.Int)
		for i := behind - 1; i > place; i-- {
			value.Mul(value, big.NewInt(256))
			value.Add(value, big.NewInt(int64(image[i])))
		}
		if code == api.Int && image[behind-1] >= 128 {
			value.Sub(value, new(big.Int).Lsh(big.NewInt(1), 64))
		}
		if code == api.Attr && value.Int64() > 6 {
			return nil
		}
		ops = append(ops, refOp{place, behind, code, value})
		place = behind
	}
	return ops
}

func refTakesLays(code int) (int, int) {
	switch code {
	case api.Int, api.Attr:
		return 0, 1
	case api.Neg, api.Not:
		return 1, 1
	case api.Jump, api.Reject:
		return 0, 0
	case api.IfFalse, api.IfTrue, api.Score:
		return 1, 0
	}
	return 2, 1
}

// refNext tells the places of the operations behind which or by which it goes on from one.
func refNext(op refOp) []int {
	target := op.behind + int(op.value.Int64())
	switch op.code {
	case api.Score, api.Reject:
		return nil
	case api.Jump:
		return []int{target}
	case api.IfFalse, api.IfTrue:
		return []int{op.behind, target}
	}
	return []int{op.behind}
}

// refFits tells whether the operations have these heights, each clause of the document on its own.
func refFits(ops []refOp, high int, heights []int) bool {
	if heights[0] != 0 {
		return false
	}
	reached := map[int]bool{3: true}
	heightAt := map[int]int{}
	for i, op := range ops {
		heightAt[op.place] = heights[i]
	}
	for i, op := range ops {
		takes, lays := refTakesLays(op.code)
		if heights[i] < 0 || heights[i] > high || heights[i] < takes {
			return false
		}
		for _, place := range refNext(op) {
			height, there := heightAt[place]
			if !there || height != heights[i]-takes+lays {
				return false
			}
			reached[place] = true
		}
	}
	return len(reached) == len(ops)
}

func refHasHead(image string) bool {
	return len(image) <= 4000 && len(image) > 3 && image[:2] == "SL"
}

// refIsImageByAll tries all heights.
func refIsImageByAll(image string) bool {
	if !refHasHead(image) {
		return false
	}
	ops, high := refOps(image), int(image[2])
	if len(ops) == 0 {
		return false
	}
	heights := make([]int, len(ops))
	for {
		if refFits(ops, high, heights) {
			return true
		}
		at := 0
		for at < len(heights) && heights[at] == high {
			heights[at] = 0
			at++
		}
		if at == len(heights) {
			return false
		}
		heights[at]++
	}
}

// refIsImage tries the heights to which the ways through the operations lead, from the first one.
func refIsImage(image string) bool {
	if !refHasHead(image) {
		return false
	}
	ops, high := refOps(image), int(image[2])
	if len(ops) == 0 {
		return false
	}
	index := map[int]int{}
	heights := make([]int, len(ops))
	for i, op := range ops {
		index[op.place] = i
		heights[i] = -1
	}
	heights[0] = 0
	todo := []int{0}
	for len(todo) > 0 {
		i := todo[len(todo)-1]
		todo = todo[:len(todo)-1]
		takes, lays := refTakesLays(ops[i].code)
		for _, place := range refNext(ops[i]) {
			if next, there := index[place]; there && heights[next] < 0 {
				heights[next] = heights[i] - takes + lays
				todo = append(todo, next)
			}
		}
	}
	return refFits(ops, high, heights)
}

func refIsItem(item api.Item) bool {
	return item.Size >= 1 && item.Size <= 1000 && item.Speed >= 0 && item.Speed <= 1000 && item.Need >= 0 && item.Need <= 2
}

func refIsBin(bin api.Bin) bool {
	return bin.Id >= 0 && bin.Id <= 1000 && bin.Zone >= 0 && bin.Zone <= 9 && bin.Cap >= 1 && bin.Cap <= 1000 &&
		bin.Used >= 0 && bin.Used <= bin.Cap && bin.Has >= 0 && bin.Has <= 2
}

func refTruth(so bool) *big.Int {
	if so {
		return big.NewInt(1)
	}
	return new(big.Int)
}

// refWorth tells what an operation makes of numbers, or the kind of its fault.
func refWorth(code int, a, b *big.Int) (*big.Int, int) {
	made := new(big.Int)
	switch code {
	case api.Neg:
		made.Neg(b)
	case api.Not:
		return refTruth(b.Sign() == 0), 0
	case api.Add:
		made.Add(a, b)
	case api.Sub:
		made.Sub(a, b)
	case api.Mul:
		made.Mul(a, b)
	case api.Div, api.Mod:
		if b.Sign() == 0 {
			return nil, api.ByZero
		}
		if made.Quo(a, b); made.IsInt64() && code == api.Mod {
			made.Rem(a, b)
		}
	case api.Less:
		return refTruth(a.Cmp(b) < 0), 0
	case api.Most:
		return refTruth(a.Cmp(b) <= 0), 0
	case api.Same:
		return refTruth(a.Cmp(b) == 0), 0
	case api.Other:
		return refTruth(a.Cmp(b) != 0), 0
	}
	if !made.IsInt64() {
		return nil, api.Overflow
	}
	return made, 0
}

func refRun(image string, item api.Item, bin api.Bin) (api.Result, api.Errno) {
	switch {
	case !refIsImage(image):
		return api.Result{}, api.ErrImage
	case !refIsItem(item):
		return api.Result{}, api.ErrItem
	case !refIsBin(bin):
		return api.Result{}, api.ErrBin
	}
	ops := map[int]refOp{}
	for _, op := range refOps(image) {
		ops[op.place] = op
	}
	attributes := []int{item.Size, item.Speed, item.Need, bin.Zone, bin.Cap, bin.Used, bin.Has}
	stack := []*big.Int{}
	place, steps := 3, 0
	for {
		op := ops[place]
		steps++
		takes, _ := refTakesLays(op.code)
		taken := append([]*big.Int{new(big.Int)}, stack[len(stack)-takes:]...)
		stack = stack[:len(stack)-takes]
		upper := taken[len(taken)-1]
		place = op.behind
		target := op.behind + int(op.value.Int64())
		switch op.code {
		case api.Int:
			stack = append(stack, op.value)
		case api.Attr:
			stack = append(stack, big.NewInt(int64(attributes[op.value.Int64()])))
		case api.Jump:
			place = target
		case api.IfFalse:
			if upper.Sign() == 0 {
				place = target
			}
		case api.IfTrue:
			if upper.Sign() != 0 {
				place = target
			}
		case api.Score:
			return api.Result{Kind: api.Scored, Value: int(upper.Int64()), Steps: steps}, api.OK
		case api.Reject:
			return api.Result{Kind: api.Rejected, Steps: steps}, api.OK
		default:
			made, fault := refWorth(op.code, taken[len(taken)-min(takes, 2)], upper)
			if fault != 0 {
				return api.Result{Kind: api.Faulted, Value: fault, Steps: steps}, api.OK
			}
			stack = append(stack, made)
		}
	}
}
