package machine

import (
	"math/rand"
	"testing"

	"slots/api"
)

func TestEndsAtAllBytes(t *testing.T) {
	random := rand.New(rand.NewSource(1))
	for range 100000 {
		row := []byte("SL\x05")
		for range random.Intn(20) {
			row = append(row, byte(random.Intn(20)))
		}
		if result := Run(string(row), api.Item{}, api.Bin{}); result.Steps > len(row) {
			t.Fatalf("%q: %d steps", row, result.Steps)
		}
	}
	if result := Run("", api.Item{}, api.Bin{}); result != (api.Result{}) {
		t.Errorf("no bytes: %v", result)
	}
}
