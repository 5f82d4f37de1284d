package slots

import (
	"math/big"
	"slices"

	"slots/api"
)

// A second, slow reading of what a policy says and of its plain steps: NAMEs are replaced token by token, and every
// EXPR is worked out anew for each item and bin, with numbers that have no bound.

var (
	refConstants  = map[string]int64{"true": 1, "false": 0, "dry": 0, "cold": 1, "safe": 2}
	refAttributes = []string{"size", "speed", "need", "zone", "cap", "used", "has"}
	refOfOne      = map[string]int{"-": api.Neg, "not": api.Not}
	refOfTwo      = map[string]int{
		"+": api.Add, "-": api.Sub, "*": api.Mul, "/": api.Div, "%": api.Mod,
		"<": api.Less, "<=": api.Most, "=": api.Same, "!=": api.Other,
	}
)

// refReplaced puts the EXPR of its LET, in brackets, in the place of each NAME.
func refReplaced(tokens []refToken, lets map[string][]refToken) []refToken {
	replaced := []refToken{}
	for _, t := range tokens {
		if meant, ok := lets[t.text]; ok {
			replaced = append(replaced, refToken{text: "("})
			replaced = append(replaced, refReplaced(meant, lets)...)
			t = refToken{text: ")"}
		}
		replaced = append(replaced, t)
	}
	return replaced
}

type refWorked struct {
	value *big.Int
	fault int
	steps int
}

// refFree tells whether there is no attribute in an EXPR.
func (n *refNode) refFree() bool {
	if n == nil {
		return true
	}
	return !slices.Contains(refAttributes, n.op.text) && n.left.refFree() && n.right.refFree()
}

// refWork tells what an EXPR is worth, and its plain steps.
func (n *refNode) refWork(attributes []int) refWorked {
	w := n.refWorkInside(attributes)
	if n.refFree() && w.fault == 0 {
		w.steps = 1
	}
	return w
}

func (n *refNode) refWorkInside(attributes []int) refWorked {
	if n.left == nil {
		return refWorked{n.refSingle(attributes), 0, 1}
	}
	left := n.left.refWork(attributes)
	if left.fault != 0 {
		return left
	}
	if n.right == nil {
		value, fault := refWorth(refOfOne[n.op.text], nil, left.value)
		return refWorked{value, fault, left.steps + 1}
	}
	if n.op.text == "and" || n.op.text == "or" {
		if (left.value.Sign() != 0) == (n.op.text == "or") {
			return refWorked{left.value, 0, left.steps + 1 + 1}
		}
		right := n.right.refWork(attributes)
		if right.fault != 0 {
			return refWorked{nil, right.fault, left.steps + 1 + right.steps}
		}
		return refWorked{right.value, 0, left.steps + 1 + right.steps + 1}
	}
	right := n.right.refWork(attributes)
	if right.fault != 0 {
		return refWorked{nil, right.fault, left.steps + right.steps}
	}
	value, fault := refWorth(refOfTwo[n.op.text], left.value, right.value)
	return refWorked{value, fault, left.steps + right.steps + 1}
}

func (n *refNode) refSingle(attributes []int) *big.Int {
	if at := slices.Index(refAttributes, n.op.text); at >= 0 {
		return big.NewInt(int64(attributes[at]))
	}
	if value, ok := refConstants[n.op.text]; ok {
		return big.NewInt(value)
	}
	value, ok := new(big.Int).SetString(n.op.text, 10)
	if !ok {
		panic("no number: " + n.op.text)
	}
	return value
}

type refRule struct {
	when, score *refNode
}

// refRules tells the rules of a policy that Check takes, with their NAMEs replaced.
func refRules(text string) []refRule {
	tokens, _ := refTokens(text)
	statements, _ := refStatements(tokens)
	lets := map[string][]refToken{}
	rules := []refRule{}
	// NAMEs bring brackets beyond those that may stand in one another in the text.
	const noBound = -1 << 40
	for _, s := range statements {
		if s.value != nil {
			lets[s.name.text] = s.value
			continue
		}
		rule := refRule{}
		if s.when != nil {
			rule.when = refExpr(refReplaced(s.when, lets), noBound)
		}
		if s.score != nil {
			rule.score = refExpr(refReplaced(s.score, lets), noBound)
		}
		rules = append(rules, rule)
	}
	return rules
}

// refSays tells what a policy says, with the plain steps.
func refSays(rules []refRule, item api.Item, bin api.Bin) api.Result {
	attributes := []int{item.Size, item.Speed, item.Need, bin.Zone, bin.Cap, bin.Used, bin.Has}
	steps := 0
	for _, rule := range rules {
		if rule.when != nil {
			when := rule.when.refWork(attributes)
			if when.fault != 0 {
				return faulted(when.fault, steps+when.steps)
			}
			if !rule.when.refFree() {
				steps += when.steps + 1
			}
			if when.value.Sign() == 0 {
				continue
			}
		}
		if rule.score == nil {
			return rejected(steps + 1)
		}
		score := rule.score.refWork(attributes)
		if score.fault != 0 {
			return faulted(score.fault, steps+score.steps)
		}
		return scored(int(score.value.Int64()), steps+score.steps+1)
	}
	return rejected(steps + 1)
}
