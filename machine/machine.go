// Package machine does what an image says, with a stack of numbers.
package machine

import (
	"slots/api"
	"slots/program"
	"slots/stock"
	"slots/worth"
)

type machine struct {
	item   api.Item
	bin    api.Bin
	stack  []int64
	place  int
	ended  bool
	result api.Result
}

// Run tells what an image does with an item and a bin. It asks for an image: other bytes have no meaning for it.
func Run(image string, item api.Item, bin api.Bin) api.Result {
	m := &machine{item: item, bin: bin, place: program.Start}
	// Jumps leave out bytes, and never go back: so this comes to an end.
	for !m.ended {
		operation, found := program.At(image, m.place)
		if !found {
			return api.Result{}
		}
		m.do(operation)
	}
	return m.result
}

// do does one operation, which is one step even if it faults.
func (m *machine) do(o program.Operation) {
	m.result.Steps++
	m.place = o.Behind
	switch o.Code {
	case api.Int:
		m.lay(o.Value)
	case api.Attr:
		attribute := stock.Attribute(int(o.Value), m.item, m.bin)
		m.lay(int64(attribute))
	case api.Neg, api.Not:
		m.one(o.Code)
	case api.Jump, api.IfFalse, api.IfTrue:
		m.jump(o)
	case api.Score:
		score := m.take()
		m.end(api.Scored, int(score))
	case api.Reject:
		m.end(api.Rejected, 0)
	default:
		m.two(o.Code)
	}
}

func (m *machine) one(code int) {
	operand := m.take()
	value, fault := worth.One(code, operand)
	m.layOrFault(value, fault)
}

func (m *machine) two(code int) {
	right := m.take()
	left := m.take()
	value, fault := worth.Two(code, left, right)
	m.layOrFault(value, fault)
}

func (m *machine) layOrFault(value int64, fault int) {
	if fault != worth.NoFault {
		m.end(api.Faulted, fault)
		return
	}
	m.lay(value)
}

func (m *machine) jump(o program.Operation) {
	jumps := true
	if o.Code != api.Jump {
		condition := m.take()
		jumps = (condition != 0) == (o.Code == api.IfTrue)
	}
	if jumps {
		m.place = o.Target()
	}
}

func (m *machine) end(kind int, value int) {
	m.ended = true
	m.result.Kind = kind
	m.result.Value = value
}

func (m *machine) lay(number int64) {
	m.stack = append(m.stack, number)
}

func (m *machine) take() int64 {
	top := len(m.stack) - 1
	if top < 0 {
		return 0
	}
	number := m.stack[top]
	m.stack = m.stack[:top]
	return number
}
