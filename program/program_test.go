package program

import (
	"testing"

	"slots/api"
)

func TestBytesAreRead(t *testing.T) {
	values := map[int][]int64{
		api.Int:     {0, 1, -1, 255, 256, -256, 1<<63 - 1, -1 << 63, 0x0102030405060708},
		api.Attr:    {api.Size, api.Has},
		api.Jump:    {0, 1, 255, 256, 65535},
		api.IfFalse: {0, 1, 255, 256, 65535},
		api.IfTrue:  {0, 1, 255, 256, 65535},
	}
	for code := api.Int; code <= api.Reject; code++ {
		list, ok := values[code]
		if !ok {
			list = []int64{0}
		}
		for _, value := range list {
			bytes := Bytes(code, value)
			operation, found := At("SL\x00"+bytes, Start)
			if !found || operation.Code != code || operation.Value != value || operation.Behind != Start+len(bytes) {
				t.Errorf("Bytes(%d, %d) = %q, which is read as %v, %v", code, value, bytes, operation, found)
			}
		}
	}
	for _, code := range []int{-1, api.Reject + 1, 256} {
		if bytes := Bytes(code, 0); bytes != "" {
			t.Errorf("Bytes(%d, 0) = %q, but there is no such operation", code, bytes)
		}
	}
}

func TestWholeIsImage(t *testing.T) {
	code := Bytes(api.Int, 7) + Bytes(api.Score, 0)
	if image := Whole(1, code); image != "SL\x01\x00\x07\x00\x00\x00\x00\x00\x00\x00\x10" || !IsImage(image) {
		t.Errorf("Whole(1, %q) = %q", code, image)
	}
}
