// Package compile makes the image of a policy.
package compile

import (
	"slots/api"
	"slots/program"
	"slots/syntax"
	"slots/token"
)

// compiler keeps the most numbers that lie on the stack at once, by the code that was made so far.
type compiler struct {
	policy syntax.Policy
	facts  []fact
	height int
}

// Image makes the image of a policy in which nothing is wrong. It has at most 12 bytes for each part, and 4 for each
// rule whose `when` is not known, which has 3 parts or more: with MaxParts parts that is far below MaxImage.
func Image(p syntax.Policy) string {
	c := &compiler{policy: p, facts: factsOf(p)}
	code := c.rules()
	return program.Whole(c.height, code)
}

// When a rule applies, as far as that is known ahead of every item and bin.
const (
	never     = 0
	sometimes = 1
	always    = 2
)

func (c *compiler) applies(rule syntax.Rule) int {
	if !rule.HasWhen {
		return always
	}
	when := factAt(c.facts, rule.When.Behind-1)
	if !when.known {
		return sometimes
	}
	if when.value == 0 {
		return never
	}
	return always
}

func (c *compiler) rules() string {
	code := ""
	for i := 0; i < len(c.policy.Rules); i++ {
		rule := c.policy.Rules[i]
		switch c.applies(rule) {
		case always:
			// An image has no operation that is never come to: so the rules behind this one are left out.
			act := c.act(rule)
			return code + act
		case sometimes:
			guarded := c.guarded(rule)
			code = code + guarded
		}
	}
	return code + program.Bytes(api.Reject, 0)
}

func (c *compiler) guarded(rule syntax.Rule) string {
	when := c.expr(rule.When)
	act := c.act(rule)
	over := program.Bytes(api.IfFalse, int64(len(act)))
	return when + over + act
}

func (c *compiler) act(rule syntax.Rule) string {
	if !rule.Scores {
		return program.Bytes(api.Reject, 0)
	}
	score := c.expr(rule.Score)
	return score + program.Bytes(api.Score, 0)
}

func (c *compiler) expr(e syntax.Expr) string {
	return c.node(c.policy.Nodes, e.Behind-1, 0)
}

// node makes the code of the node at an index, to be done while that many numbers lie on the stack already.
// Operands, and what NAMEs stand for, stand ahead of a node, so it needs no nodes but those for them.
func (c *compiler) node(nodes []syntax.Node, at int, below int) string {
	if at < 0 || at >= len(nodes) {
		return ""
	}
	node := nodes[at]
	ahead := nodes[:at]
	fixed := factAt(c.facts, at)
	switch {
	case fixed.known:
		return c.lay(api.Int, fixed.value, below)
	case node.Operands == 1:
		operand := c.node(ahead, node.Left, below)
		return operand + program.Bytes(operationOf(node), 0)
	case isChoice(node):
		return c.choice(ahead, node, below)
	case node.Operands == 2:
		left := c.node(ahead, node.Left, below)
		right := c.node(ahead, node.Right, below+1)
		return left + right + program.Bytes(operationOf(node), 0)
	case node.Token.Kind == token.Name:
		return c.node(ahead, meantBy(node.Token.Text, c.policy.Lets), below)
	}
	return c.lay(api.Attr, int64(api.Size+node.Token.Kind-token.Size), below)
}

// choice makes the code of `and` or `or`. Since the left operand is taken by the jump, what it decides is laid anew.
func (c *compiler) choice(ahead []syntax.Node, node syntax.Node, below int) string {
	left := c.node(ahead, node.Left, below)
	right := c.node(ahead, node.Right, below)
	decided := c.lay(api.Int, decides(node.Token.Kind), below)
	over := program.Bytes(api.Jump, int64(len(decided)))
	leave := program.Bytes(leaves(node.Token.Kind), int64(len(right)+len(over)))
	return left + leave + right + over + decided
}

// lay makes an operation that lays one number on those that lie below.
func (c *compiler) lay(code int, value int64, below int) string {
	if c.height < below+1 {
		c.height = below + 1
	}
	return program.Bytes(code, value)
}
