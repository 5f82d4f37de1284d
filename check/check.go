// Package check tells what is wrong with a policy that was read: its names, its kinds of values, its parts.
package check

import (
	"slots/api"
	"slots/syntax"
	"slots/token"
)

// Errors tells ErrName or ErrType with its place, or ErrBig and 0; else OK and 0.
func Errors(p syntax.Policy) (api.Errno, int) {
	named, place := names(p)
	if !named {
		return api.ErrName, place
	}
	fitting, place := kinds(p)
	if !fitting {
		return api.ErrType, place
	}
	if parts(p) > api.MaxParts {
		return api.ErrBig, 0
	}
	return api.OK, 0
}

// names tells true; or false and the place of the first NAME that is there already or not there yet.
func names(p syntax.Policy) (bool, int) {
	for i := 0; i < len(p.Lets); i++ {
		name := p.Lets[i].Name
		if syntax.LetOf(p.Lets, name.Text) < i {
			return false, name.Place
		}
		ok, place := namesOf(p, p.Lets[i].Value, i)
		if !ok {
			return false, place
		}
	}
	for i := 0; i < len(p.Rules); i++ {
		ok, place := namesOf(p, p.Rules[i].When, len(p.Lets))
		if !ok {
			return false, place
		}
		ok, place = namesOf(p, p.Rules[i].Score, len(p.Lets))
		if !ok {
			return false, place
		}
	}
	return true, 0
}

// namesOf looks at the NAMEs of one EXPR, ahead of which that many LETs stand.
func namesOf(p syntax.Policy, e syntax.Expr, ahead int) (bool, int) {
	for i := e.From; i < e.Behind && i < len(p.Nodes); i++ {
		t := p.Nodes[i].Token
		if t.Kind == token.Name && syntax.LetOf(p.Lets, t.Text) >= ahead {
			return false, t.Place
		}
	}
	return true, 0
}

// parts tells how many parts a policy has. What is above MaxParts may be told as less, but stays above it.
func parts(p syntax.Policy) int {
	ofLets := make([]int, len(p.Lets))
	for i := 0; i < len(p.Lets); i++ {
		ofLets[i] = partsOf(p, p.Lets[i].Value, ofLets)
	}
	all := 0
	for i := 0; i < len(p.Rules); i++ {
		all += partsOf(p, p.Rules[i].When, ofLets)
		all += partsOf(p, p.Rules[i].Score, ofLets)
	}
	return all
}

// partsOf stops counting above MaxParts: NAMEs of NAMEs can stand for far more parts than need be counted.
func partsOf(p syntax.Policy, e syntax.Expr, ofLets []int) int {
	count := 0
	for i := e.From; i < e.Behind && i < len(p.Nodes) && count <= api.MaxParts; i++ {
		count += partsOfNode(p, p.Nodes[i].Token, ofLets)
	}
	return count
}

// partsOfNode leaves out the operands of an operator: they are nodes of their own.
func partsOfNode(p syntax.Policy, t token.Token, ofLets []int) int {
	if t.Kind != token.Name {
		return 1
	}
	let := syntax.LetOf(p.Lets, t.Text)
	return at(ofLets, let)
}

func at(list []int, index int) int {
	if index < 0 || index >= len(list) {
		return 0
	}
	return list[index]
}
