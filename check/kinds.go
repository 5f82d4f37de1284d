package check

import (
	"slots/syntax"
	"slots/token"
)

// The kinds of values.
const (
	noKind = 0
	number = 1
	truth  = 2
	class  = 3
)

// looker goes over the EXPRs of a policy in the order of the text, up to the first place that does not fit.
type looker struct {
	policy  syntax.Policy
	ofNodes []int
	failed  bool
	place   int
}

// kinds tells true; or false and the place of the first operator, or of the first EXPR behind `when` or `score`,
// that does not fit.
func kinds(p syntax.Policy) (bool, int) {
	l := &looker{policy: p, ofNodes: make([]int, len(p.Nodes))}
	for i := 0; i < len(p.Lets); i++ {
		l.look(p.Lets[i].Value)
	}
	for i := 0; i < len(p.Rules); i++ {
		rule := p.Rules[i]
		if rule.HasWhen {
			l.lookFor(truth, rule.When)
		}
		if rule.Scores {
			l.lookFor(number, rule.Score)
		}
	}
	return !l.failed, l.place
}

// lookFor looks at an EXPR that has to be of that kind.
func (l *looker) lookFor(kind int, e syntax.Expr) {
	l.look(e)
	if l.kindOf(e) != kind {
		l.fail(e.Place)
	}
}

func (l *looker) look(e syntax.Expr) {
	for i := e.From; i < e.Behind && i < len(l.policy.Nodes) && i < len(l.ofNodes); i++ {
		node := l.policy.Nodes[i]
		kind := l.kindOfNode(node)
		if kind == noKind {
			l.fail(node.Token.Place)
		}
		l.ofNodes[i] = kind
	}
}

// fail keeps the first place: all that comes behind it may fail for the same cause.
func (l *looker) fail(place int) {
	if !l.failed {
		l.failed = true
		l.place = place
	}
}

func (l *looker) kindOf(e syntax.Expr) int {
	return at(l.ofNodes, e.Behind-1)
}

// kindOfNode tells the kind of a node whose operands were looked at; noKind, if it does not take what it has.
func (l *looker) kindOfNode(node syntax.Node) int {
	switch node.Operands {
	case 1:
		operand := at(l.ofNodes, node.Left)
		return kindOfOne(node.Token.Kind, operand)
	case 2:
		left := at(l.ofNodes, node.Left)
		right := at(l.ofNodes, node.Right)
		return kindOfTwo(node.Token.Kind, left, right)
	}
	if node.Token.Kind == token.Name {
		return l.kindOfName(node.Token.Text)
	}
	return kindOfSingle(node.Token.Kind)
}

func (l *looker) kindOfName(name string) int {
	let := syntax.LetOf(l.policy.Lets, name)
	if let >= len(l.policy.Lets) {
		return noKind
	}
	return l.kindOf(l.policy.Lets[let].Value)
}

func kindOfSingle(kind int) int {
	switch kind {
	case token.Number, token.Size, token.Speed, token.Zone, token.Cap, token.Used:
		return number
	case token.True, token.False:
		return truth
	case token.Dry, token.Cold, token.Safe, token.Need, token.Has:
		return class
	}
	return noKind
}

// kindOfOne tells what `-` or `not` makes of an operand of that kind.
func kindOfOne(operator int, operand int) int {
	if operator == token.Minus && operand == number {
		return number
	}
	if operator == token.Not && operand == truth {
		return truth
	}
	return noKind
}

// kindOfTwo tells what an operator makes of two operands of those kinds.
func kindOfTwo(operator int, left int, right int) int {
	if left != right {
		return noKind
	}
	switch operator {
	case token.Equal, token.Unequal:
		return truth
	case token.Less, token.Most:
		if left == number {
			return truth
		}
	case token.And, token.Or:
		if left == truth {
			return truth
		}
	case token.Plus, token.Minus, token.Times, token.Divide, token.Modulo:
		if left == number {
			return number
		}
	}
	return noKind
}
