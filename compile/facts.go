package compile

import (
	"slots/api"
	"slots/syntax"
	"slots/token"
	"slots/worth"
)

// fact tells whether a node, its NAMEs replaced, is known to be worth one value, whatever the item and the bin are,
// and that value: a truth is 1 or 0, a class its number. What faults is not known: its fault has to come in its turn.
type fact struct {
	known bool
	value int64
}

// factsOf tells the facts of all nodes. What a node needs, its operands or the EXPR of its NAME, stands ahead of it.
func factsOf(p syntax.Policy) []fact {
	facts := make([]fact, len(p.Nodes))
	for i := 0; i < len(p.Nodes); i++ {
		facts[i] = factOf(p.Nodes[i], p.Lets, facts)
	}
	return facts
}

func factAt(facts []fact, index int) fact {
	if index < 0 || index >= len(facts) {
		return fact{}
	}
	return facts[index]
}

func factOf(node syntax.Node, lets []syntax.Let, facts []fact) fact {
	left := factAt(facts, node.Left)
	right := factAt(facts, node.Right)
	switch {
	case node.Operands == 1:
		return factOfOne(operationOf(node), left)
	case isChoice(node):
		return factOfChoice(node.Token.Kind, left, right)
	case node.Operands == 2:
		return factOfTwo(operationOf(node), left, right)
	case node.Token.Kind == token.Name:
		return factAt(facts, meantBy(node.Token.Text, lets))
	}
	return factOfSingle(node.Token)
}

// meantBy tells the index of the node for which a NAME stands; -1, if it has no LET.
func meantBy(name string, lets []syntax.Let) int {
	let := syntax.LetOf(lets, name)
	if let >= len(lets) {
		return -1
	}
	return lets[let].Value.Behind - 1
}

func factOfOne(operation int, operand fact) fact {
	if !operand.known {
		return fact{}
	}
	value, fault := worth.One(operation, operand.value)
	return fact{known: fault == worth.NoFault, value: value}
}

func factOfTwo(operation int, left fact, right fact) fact {
	if !left.known || !right.known {
		return fact{}
	}
	value, fault := worth.Two(operation, left.value, right.value)
	return fact{known: fault == worth.NoFault, value: value}
}

// factOfChoice tells the fact of `and` or `or`. If the left operand decides, nothing need be known of the right one.
func factOfChoice(kind int, left fact, right fact) fact {
	if !left.known || left.value == decides(kind) {
		return left
	}
	return right
}

func factOfSingle(t token.Token) fact {
	switch t.Kind {
	case token.Number:
		return fact{known: true, value: numberOf(t.Text)}
	case token.True:
		return fact{known: true, value: 1}
	case token.False:
		return fact{known: true, value: 0}
	case token.Dry, token.Cold, token.Safe:
		return fact{known: true, value: int64(api.Dry + t.Kind - token.Dry)}
	}
	return fact{}
}

// numberOf tells the number of a row of digits: of MaxDigits of them at most, so that it has 64 bits.
func numberOf(digits string) int64 {
	var number int64
	for i := 0; i < len(digits); i++ {
		number = number*10 + int64(digits[i]) - '0'
	}
	return number
}
