// Package worth tells what the operators between numbers are worth: a number, or the kind of a fault.
package worth

import "slots/api"

// NoFault stands where a kind of fault could, beside a number. Beside a fault the number is 0.
const NoFault = 0

const (
	leastNumber = -1 << 63
	mostNumber  = 1<<63 - 1
)

// One tells what Neg or Not, by its number in package api, is worth.
func One(operation int, a int64) (int64, int) {
	if operation == api.Neg {
		return negated(a)
	}
	return truth(a == 0), NoFault
}

// Two tells what an operation that takes two numbers, by its number in package api, is worth.
func Two(operation int, left int64, right int64) (int64, int) {
	switch operation {
	case api.Add:
		return sum(left, right)
	case api.Sub:
		return difference(left, right)
	case api.Mul:
		return product(left, right)
	case api.Div:
		return quotient(left, right)
	case api.Mod:
		return remainder(left, right)
	}
	return compared(operation, left, right), NoFault
}

func compared(operation int, left int64, right int64) int64 {
	switch operation {
	case api.Less:
		return truth(left < right)
	case api.Most:
		return truth(left <= right)
	case api.Same:
		return truth(left == right)
	}
	return truth(left != right)
}

func truth(so bool) int64 {
	if so {
		return 1
	}
	return 0
}

func negated(a int64) (int64, int) {
	if a == leastNumber {
		return 0, api.Overflow
	}
	return -a, NoFault
}

func sum(left int64, right int64) (int64, int) {
	if right > 0 && left > mostNumber-right {
		return 0, api.Overflow
	}
	if right < 0 && left < leastNumber-right {
		return 0, api.Overflow
	}
	return left + right, NoFault
}

func difference(left int64, right int64) (int64, int) {
	if right > 0 && left < leastNumber+right {
		return 0, api.Overflow
	}
	if right < 0 && left > mostNumber+right {
		return 0, api.Overflow
	}
	return left - right, NoFault
}

// product divides what came out by the right one again: if bits were lost, that does not give the left one.
// With -1 this could not be told, since the least number divided by -1 is itself lost.
func product(left int64, right int64) (int64, int) {
	if right == 0 {
		return 0, NoFault
	}
	if right == -1 {
		return negated(left)
	}
	made := left * right
	if made/right != left {
		return 0, api.Overflow
	}
	return made, NoFault
}

func quotient(left int64, right int64) (int64, int) {
	fault := faultOfDivision(left, right)
	if fault != NoFault || right == 0 {
		return 0, fault
	}
	return left / right, NoFault
}

func remainder(left int64, right int64) (int64, int) {
	fault := faultOfDivision(left, right)
	if fault != NoFault || right == 0 {
		return 0, fault
	}
	return left % right, NoFault
}

// faultOfDivision tells the fault of `/` and of `%`: what is left over has the fault of its quotient.
func faultOfDivision(left int64, right int64) int {
	if right == 0 {
		return api.ByZero
	}
	if left == leastNumber && right == -1 {
		return api.Overflow
	}
	return NoFault
}
