// Package syntax reads the text of a policy into LETs, RULEs and the nodes of their EXPRs.
package syntax

import "slots/token"

// Node is an operand of one token, or an operator with its operands.
// Left and Right are indexes in the nodes of the policy; the only operand of `-` or `not` is Left.
type Node struct {
	Token    token.Token
	Operands int
	Left     int
	Right    int
}

// Expr is an EXPR: the place of its first token, and its nodes, from index From to ahead of index Behind.
// An EXPR that is not there has no nodes.
// Each operator stands behind its operands, the left ahead of the right; so the last node is the whole EXPR.
type Expr struct {
	Place  int
	From   int
	Behind int
}

// Let gives a NAME to an EXPR.
type Let struct {
	Name  token.Token
	Value Expr
}

// Rule has an EXPR behind `when`, if it has a `when`, and one behind `score`, unless it rejects.
type Rule struct {
	HasWhen bool
	When    Expr
	Scores  bool
	Score   Expr
}

// Policy is a policy that was read: the nodes of all its EXPRs, in the order of the text, and its statements.
type Policy struct {
	Nodes []Node
	Lets  []Let
	Rules []Rule
}

// Binding of operators: a higher one binds more. An OPERAND binds more than every sign between operands.
const (
	bindsNot    = 0
	BindsLeast  = 1
	BindsAsUnit = 6
)

// binding tells how much a sign or word between two operands binds; bindsNot, if it is none such.
func binding(kind int) int {
	switch kind {
	case token.Or:
		return BindsLeast
	case token.And:
		return 2
	case token.Equal, token.Unequal, token.Less, token.Most:
		return 3
	case token.Plus, token.Minus:
		return 4
	case token.Times, token.Divide, token.Modulo:
		return 5
	}
	return bindsNot
}

// Binding tells how much the outermost operator of a node binds.
func (n Node) Binding() int {
	if n.Operands == 2 {
		return binding(n.Token.Kind)
	}
	return BindsAsUnit
}

// LetOf tells the index of the first LET of a name; len(lets), if there is none.
func LetOf(lets []Let, name string) int {
	for i := 0; i < len(lets); i++ {
		if lets[i].Name.Text == name {
			return i
		}
	}
	return len(lets)
}
