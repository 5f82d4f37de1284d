package compile

import (
	"testing"

	"slots/syntax"
)

// Which image a policy has is free; but one that asks for more height than it needs would be a waste.
func TestHeightOfImage(t *testing.T) {
	for _, c := range []struct {
		policy string
		height byte
	}{
		{"reject;", 0},
		{"score zone;", 1},
		{"score 1 + 2;", 1},
		{"score zone + 2;", 2},
		{"score zone - 1 - 2;", 2},
		{"score 1 - (2 - zone);", 3},
		{"let a = 1 - zone; score 2 - a;", 3},
		{"let a = 1 - (1 - (1 - zone)); score 2;", 1},
		{"when false score zone - 1; score 2;", 1},
		{"when zone = 1 or zone = 2 score 2;", 2},
		{"when zone = 1 score zone; score zone - zone * zone;", 3},
	} {
		read, _, _ := syntax.Read(c.policy)
		if image := Image(read); image[2] != c.height {
			t.Errorf("Image of %q = %q, want the height %d", c.policy, image, c.height)
		}
	}
	read, _, _ := syntax.Read("score zone;")
	if image := Image(read); image != "SL\x01\x01\x03\x10" {
		t.Errorf("the image in README.md is %q", image)
	}
}
