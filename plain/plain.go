// Package plain writes a policy in its plain form.
package plain

import (
	"slots/syntax"
	"slots/token"
)

// Text writes a policy in its plain form.
func Text(p syntax.Policy) string {
	text := ""
	for i := 0; i < len(p.Lets); i++ {
		line := letLine(p.Nodes, p.Lets[i])
		text = text + line + "\n"
	}
	for i := 0; i < len(p.Rules); i++ {
		if i > 0 {
			text = text + "\n"
		}
		line := ruleLine(p.Nodes, p.Rules[i])
		text = text + line
	}
	return text
}

func letLine(nodes []syntax.Node, let syntax.Let) string {
	value := exprText(nodes, let.Value)
	return "let " + let.Name.Text + " = " + value + ";"
}

func ruleLine(nodes []syntax.Node, rule syntax.Rule) string {
	line := ""
	if rule.HasWhen {
		when := exprText(nodes, rule.When)
		line = "when " + when + " "
	}
	if !rule.Scores {
		return line + "reject;"
	}
	score := exprText(nodes, rule.Score)
	return line + "score " + score + ";"
}

func exprText(nodes []syntax.Node, e syntax.Expr) string {
	return nodeText(nodes, e.Behind-1, syntax.BindsLeast)
}

// nodeText writes the node at an index, in brackets if it binds less than what stands there has to.
// Operands stand ahead of their operator, so it needs no nodes but those for them.
func nodeText(nodes []syntax.Node, at int, least int) string {
	if at < 0 || at >= len(nodes) {
		return ""
	}
	node := nodes[at]
	text := bareText(nodes[:at], node)
	if node.Binding() < least {
		return "(" + text + ")"
	}
	return text
}

func bareText(nodes []syntax.Node, node syntax.Node) string {
	if node.Operands == 0 {
		return singleText(node.Token)
	}
	if node.Operands == 1 {
		operand := nodeText(nodes, node.Left, syntax.BindsAsUnit)
		if node.Token.Kind == token.Minus {
			return "-" + operand
		}
		return node.Token.Text + " " + operand
	}
	binds := node.Binding()
	left := nodeText(nodes, node.Left, binds)
	// Without its brackets a right operand of the same line would lose its own left operand.
	right := nodeText(nodes, node.Right, binds+1)
	return left + " " + node.Token.Text + " " + right
}

func singleText(t token.Token) string {
	if t.Kind == token.Number {
		return withoutNoughts(t.Text)
	}
	return t.Text
}

func withoutNoughts(digits string) string {
	from := 0
	for from < len(digits)-1 && digits[from] == '0' {
		from++
	}
	return digits[from:]
}
