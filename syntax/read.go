package syntax

import (
	"slots/api"
	"slots/token"
)

// reader goes over the tokens of a policy. Once it has failed it goes no further,
// so that the token it stands at is the one with which no policy begins.
type reader struct {
	tokens []token.Token
	next   int
	depth  int
	failed bool
	policy Policy
}

// Read reads a policy: ErrLong, ErrToken or ErrSyntax with its place; else the policy, OK and 0.
func Read(text string) (Policy, api.Errno, int) {
	if len(text) > api.MaxText {
		return Policy{}, api.ErrLong, 0
	}
	tokens, ok, place := token.Scan(text)
	if !ok {
		return Policy{}, api.ErrToken, place
	}
	r := &reader{tokens: tokens}
	r.readPolicy()
	if r.failed {
		stop := r.current()
		return Policy{}, api.ErrSyntax, stop.Place
	}
	return r.policy, api.OK, 0
}

func (r *reader) current() token.Token {
	if r.next < len(r.tokens) {
		return r.tokens[r.next]
	}
	return token.Token{}
}

func (r *reader) sees(kind int) bool {
	now := r.current()
	return !r.failed && now.Kind == kind
}

// take goes past a token of that kind, and fails if there stands another.
func (r *reader) take(kind int) {
	if r.sees(kind) {
		r.next++
	} else {
		r.failed = true
	}
}

func (r *reader) readPolicy() {
	for r.sees(token.Let) {
		r.readLet()
	}
	r.readRule()
	for !r.failed && !r.sees(token.End) {
		r.readRule()
	}
}

func (r *reader) readLet() {
	r.take(token.Let)
	name := r.current()
	r.take(token.Name)
	r.take(token.Equal)
	value := r.readExpr()
	r.take(token.Semicolon)
	r.policy.Lets = append(r.policy.Lets, Let{Name: name, Value: value})
}

func (r *reader) readRule() {
	rule := Rule{}
	if r.sees(token.When) {
		r.take(token.When)
		rule.HasWhen = true
		rule.When = r.readExpr()
	}
	if r.sees(token.Score) {
		r.take(token.Score)
		rule.Scores = true
		rule.Score = r.readExpr()
	} else {
		r.take(token.Reject)
	}
	r.take(token.Semicolon)
	r.policy.Rules = append(r.policy.Rules, rule)
}

func (r *reader) readExpr() Expr {
	first := r.current()
	from := len(r.policy.Nodes)
	r.readBinding(BindsLeast)
	return Expr{Place: first.Place, From: from, Behind: len(r.policy.Nodes)}
}

// readBinding reads an operand and, with it, what is tied to it by operators that bind as much as least, or more.
// It tells the index of the node.
func (r *reader) readBinding(least int) int {
	left := r.readOperand()
	binds := r.currentBinding()
	for binds != bindsNot && binds >= least {
		operator := r.current()
		r.take(operator.Kind)
		// Of one line of the table the left operator binds more: the right operand ends ahead of the next such one.
		right := r.readBinding(binds + 1)
		left = r.add(Node{Token: operator, Operands: 2, Left: left, Right: right})
		binds = r.currentBinding()
	}
	return left
}

func (r *reader) currentBinding() int {
	if r.failed {
		return bindsNot
	}
	now := r.current()
	return binding(now.Kind)
}

func (r *reader) readOperand() int {
	now := r.current()
	switch {
	case r.failed:
		return 0
	case isSingle(now.Kind):
		r.take(now.Kind)
		return r.add(Node{Token: now})
	case now.Kind == token.Minus || now.Kind == token.Not:
		r.take(now.Kind)
		inner := r.readOperand()
		return r.add(Node{Token: now, Operands: 1, Left: inner})
	case now.Kind == token.Open && r.depth < api.MaxDepth:
		return r.readBrackets()
	}
	r.failed = true
	return 0
}

func (r *reader) readBrackets() int {
	r.take(token.Open)
	r.depth++
	inner := r.readBinding(BindsLeast)
	r.take(token.Close)
	r.depth--
	return inner
}

// isSingle tells whether a token of that kind is an OPERAND alone.
func isSingle(kind int) bool {
	return kind == token.Number || kind == token.Name || kind >= token.True && kind <= token.Has
}

func (r *reader) add(n Node) int {
	r.policy.Nodes = append(r.policy.Nodes, n)
	return len(r.policy.Nodes) - 1
}
