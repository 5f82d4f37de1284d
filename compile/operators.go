package compile

import (
	"slots/api"
	"slots/syntax"
	"slots/token"
)

// isChoice tells whether a node is an `and` or an `or`, which may leave out its right operand.
func isChoice(node syntax.Node) bool {
	return node.Token.Kind == token.And || node.Token.Kind == token.Or
}

// decides tells the worth of a left operand at which the right one of `and` or `or` is not worked out.
func decides(kind int) int64 {
	if kind == token.Or {
		return 1
	}
	return 0
}

// leaves tells the operation that leaves out the right operand of `and` or `or`.
func leaves(kind int) int {
	if kind == token.Or {
		return api.IfTrue
	}
	return api.IfFalse
}

// operationOf tells the operation of an operator that works out all its operands.
func operationOf(node syntax.Node) int {
	switch node.Token.Kind {
	case token.Not:
		return api.Not
	case token.Minus:
		if node.Operands == 1 {
			return api.Neg
		}
		return api.Sub
	case token.Plus:
		return api.Add
	case token.Times:
		return api.Mul
	case token.Divide:
		return api.Div
	case token.Modulo:
		return api.Mod
	case token.Less:
		return api.Less
	case token.Most:
		return api.Most
	case token.Equal:
		return api.Same
	}
	return api.Other
}
