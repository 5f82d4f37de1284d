// Package program knows the bytes of images: which operations stand there, and whether they are an image at all.
package program

import "slots/api"

// Start is the place of an image's first operation.
const Start = 3

// Operation is one operation of an image: its number in package api; the number, the attribute or the distance of a
// jump that stands behind it; and the place of the first byte behind all that.
type Operation struct {
	Code   int
	Value  int64
	Behind int
}

// By the number of an operation: how many bytes stand behind it, how many numbers it takes, and how many it lays.
var (
	bytesBehind = [18]int{8, 1, 0, 0, 0, 0, 0, 0, 0, 0, 0, 0, 0, 2, 2, 2, 0, 0}
	takes       = [18]int{0, 0, 1, 1, 2, 2, 2, 2, 2, 2, 2, 2, 2, 0, 1, 1, 1, 0}
	lays        = [18]int{1, 1, 1, 1, 1, 1, 1, 1, 1, 1, 1, 1, 1, 0, 0, 0, 0, 0}
)

// At reads the operation that begins at a place; it tells false, if none does.
func At(image string, place int) (Operation, bool) {
	if place < 0 || place >= len(image) {
		return Operation{}, false
	}
	code := int(image[place])
	if code >= len(bytesBehind) {
		return Operation{}, false
	}
	rest := image[place+1:]
	n := bytesBehind[code]
	if n > len(rest) {
		return Operation{}, false
	}
	value := lowestFirst(rest[:n])
	if code == api.Attr && value > api.Has {
		return Operation{}, false
	}
	return Operation{Code: code, Value: value, Behind: place + 1 + n}, true
}

// lowestFirst reads a number, the lowest byte first; only one of eight bytes can be below 0.
func lowestFirst(bytes string) int64 {
	var number uint64
	for i := len(bytes) - 1; i >= 0; i-- {
		number = number<<8 | uint64(bytes[i])
	}
	return int64(number)
}

// Takes tells how many numbers the operation takes from the stack.
func (o Operation) Takes() int {
	if o.Code < 0 || o.Code >= len(takes) {
		return 0
	}
	return takes[o.Code]
}

// Lays tells how many numbers the operation lays on the stack.
func (o Operation) Lays() int {
	if o.Code < 0 || o.Code >= len(lays) {
		return 0
	}
	return lays[o.Code]
}

// Jumps tells whether the operation jumps, always or at some numbers.
func (o Operation) Jumps() bool {
	return o.Code == api.Jump || o.Code == api.IfFalse || o.Code == api.IfTrue
}

// Ends tells whether the operation ends the run by itself.
func (o Operation) Ends() bool {
	return o.Code == api.Score || o.Code == api.Reject
}

// Target tells the place at which the operation jumps, if it does.
func (o Operation) Target() int {
	return o.Behind + int(o.Value)
}
