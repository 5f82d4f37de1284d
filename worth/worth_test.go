package worth

import (
	"testing"

	"slots/api"
)

func TestFaultsHaveNoNumber(t *testing.T) {
	for _, c := range []struct {
		operation   int
		left, right int64
		fault       int
	}{
		{api.Add, mostNumber, 1, api.Overflow}, {api.Add, leastNumber, -1, api.Overflow},
		{api.Sub, leastNumber, 1, api.Overflow}, {api.Sub, mostNumber, -1, api.Overflow},
		{api.Mul, mostNumber, 2, api.Overflow}, {api.Mul, leastNumber, -1, api.Overflow}, {api.Mul, -1, leastNumber, api.Overflow},
		{api.Div, leastNumber, -1, api.Overflow}, {api.Div, 1, 0, api.ByZero},
		{api.Mod, leastNumber, -1, api.Overflow}, {api.Mod, 1, 0, api.ByZero},
	} {
		if number, fault := Two(c.operation, c.left, c.right); number != 0 || fault != c.fault {
			t.Errorf("%d, %d, operation %d: %d, %d, want the fault %d", c.left, c.right, c.operation, number, fault, c.fault)
		}
	}
	if number, fault := One(api.Neg, leastNumber); number != 0 || fault != api.Overflow {
		t.Errorf("Neg of the least number: %d, %d", number, fault)
	}
}
