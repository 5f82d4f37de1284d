package program

import "slots/api"

const noHeight = -1

// verifier goes over the operations once, from the first to the last: an operation is gone on to, or jumped at, only
// from places ahead of it, so what height it has, if any, is known when it is looked at.
type verifier struct {
	image   string
	most    int
	heights []int
	wrong   bool
}

// IsImage tells whether some bytes are an image.
func IsImage(image string) bool {
	if !hasHead(image) {
		return false
	}
	v := &verifier{image: image, most: int(image[2]), heights: make([]int, len(image))}
	for i := 0; i < len(v.heights); i++ {
		v.heights[i] = noHeight
	}
	v.reach(Start, 0)
	place := Start
	for !v.wrong && place < len(image) {
		place = v.look(place)
	}
	return !v.wrong
}

// hasHead tells whether the bytes are not too many, and begin as those of an image, with some behind that.
func hasHead(image string) bool {
	if len(image) <= Start || len(image) > api.MaxImage {
		return false
	}
	return image[0] == 'S' && image[1] == 'L'
}

// look looks at the operation that begins at a place, and tells the place behind it.
func (v *verifier) look(place int) int {
	operation, found := At(v.image, place)
	if !found {
		v.wrong = true
		return len(v.image)
	}
	height := v.heightAt(place)
	if height == noHeight || height < operation.Takes() {
		v.wrong = true
	}
	v.refuseInside(place+1, operation.Behind)
	if operation.Ends() {
		return operation.Behind
	}
	after := height - operation.Takes() + operation.Lays()
	if operation.Code != api.Jump {
		v.reach(operation.Behind, after)
	}
	if operation.Jumps() {
		v.reach(operation.Target(), after)
	}
	return operation.Behind
}

// refuseInside refuses a jump at a byte from one place to ahead of another: no operation begins there.
func (v *verifier) refuseInside(from int, behind int) {
	for i := from; i < behind; i++ {
		if v.heightAt(i) != noHeight {
			v.wrong = true
		}
	}
}

// reach gives the operation at a place its height, which has to be the one it has already, if it has one.
func (v *verifier) reach(place int, height int) {
	if place < 0 || place >= len(v.heights) || height > v.most {
		v.wrong = true
		return
	}
	if v.heights[place] != noHeight && v.heights[place] != height {
		v.wrong = true
	}
	v.heights[place] = height
}

func (v *verifier) heightAt(place int) int {
	if place < 0 || place >= len(v.heights) {
		return noHeight
	}
	return v.heights[place]
}
