package slots

import (
	"regexp"
	"sort"
	"strings"

	"slots/api"
)

// A second reading of the document, slow and by other means than the program: the tests hold the two together.

type refToken struct {
	text  string
	place int
}

type refNode struct {
	op          refToken
	left, right *refNode
}

type refStatement struct {
	name        refToken
	when, score []refToken
	value       []refToken
}

var (
	refPiece   = regexp.MustCompile(`^([0-9]+|[a-z]+|!=|<=|[;=<+*/%()-])`)
	refNumber  = regexp.MustCompile(`^[0-9]+$`)
	refWord    = regexp.MustCompile(`^[a-z]+$`)
	refMeaning = refSet("let when score reject and or not")
	refValue   = refSet("true false dry cold safe size speed need zone cap used has")
)

func refSet(words string) map[string]bool {
	set := map[string]bool{}
	for _, word := range strings.Fields(words) {
		set[word] = true
	}
	return set
}

func refTokens(text string) (tokens []refToken, bad int) {
	for at := 0; at < len(text); {
		if text[at] == 32 || text[at] == 10 {
			at++
			continue
		}
		piece := refPiece.FindString(text[at:])
		if piece == "" || refNumber.MatchString(piece) && len(piece) > 18 || refWord.MatchString(piece) && len(piece) > 8 {
			return nil, at
		}
		tokens = append(tokens, refToken{piece, at})
		at += len(piece)
	}
	return tokens, -1
}

func (t refToken) isName() bool {
	return t.text[0] >= 'a' && t.text[0] <= 'z' && !refMeaning[t.text] && !refValue[t.text]
}

func (t refToken) isSingle() bool {
	return t.isName() || t.text[0] >= '0' && t.text[0] <= '9' || refValue[t.text]
}

func (t refToken) line() int {
	return refLines[t.text]
}

var refLines = map[string]int{
	"or": 1, "and": 2, "=": 3, "!=": 3, "<": 3, "<=": 3, "+": 4, "-": 4, "*": 5, "/": 5, "%": 5,
}

// betweenOperands tells whether the token at i is an operator of two operands: an operand has to end ahead of it.
func betweenOperands(tokens []refToken, i int) bool {
	return tokens[i].line() > 0 && i > 0 && (tokens[i-1].isSingle() || tokens[i-1].text == ")")
}

// refExpr splits an EXPR at the operator that binds least, of one line the last; nil, if it is none.
func refExpr(tokens []refToken, depth int) *refNode {
	level, at := 0, -1
	for i, t := range tokens {
		switch t.text {
		case "(":
			level++
		case ")":
			level--
		}
		if level < 0 {
			return nil
		}
		if level == 0 && betweenOperands(tokens, i) && (at < 0 || t.line() <= tokens[at].line()) {
			at = i
		}
	}
	last := len(tokens) - 1
	switch {
	case last < 0 || level != 0:
		return nil
	case at >= 0:
		left, right := refExpr(tokens[:at], depth), refExpr(tokens[at+1:], depth)
		if left == nil || right == nil {
			return nil
		}
		return &refNode{tokens[at], left, right}
	case last == 0 && tokens[0].isSingle():
		return &refNode{op: tokens[0]}
	case tokens[0].text == "-" || tokens[0].text == "not":
		if inner := refExpr(tokens[1:], depth); inner != nil {
			return &refNode{op: tokens[0], left: inner}
		}
	case tokens[0].text == "(" && tokens[last].text == ")" && depth < 8:
		return refExpr(tokens[1:last], depth+1)
	}
	return nil
}

func refStatements(tokens []refToken) ([]refStatement, bool) {
	statements := []refStatement{}
	from := 0
	for i, t := range tokens {
		if t.text != ";" {
			continue
		}
		statement, ok := refOneStatement(tokens[from:i])
		let := statement.value != nil
		if !ok || let && len(statements) > 0 && statements[len(statements)-1].value == nil {
			return nil, false
		}
		statements = append(statements, statement)
		from = i + 1
	}
	rules := len(statements) > 0 && statements[len(statements)-1].value == nil
	return statements, rules && from == len(tokens)
}

func refOneStatement(tokens []refToken) (refStatement, bool) {
	s := refStatement{}
	if len(tokens) > 3 && tokens[0].text == "let" && tokens[1].isName() && tokens[2].text == "=" {
		s.name, s.value = tokens[1], tokens[3:]
		return s, refExpr(s.value, 0) != nil
	}
	act := 0
	for act < len(tokens) && tokens[act].text != "score" && tokens[act].text != "reject" {
		act++
	}
	if act == len(tokens) {
		return s, false
	}
	if act > 0 {
		s.when = tokens[1:act]
		if tokens[0].text != "when" || refExpr(s.when, 0) == nil {
			return s, false
		}
	}
	if tokens[act].text == "reject" {
		return s, act == len(tokens)-1
	}
	s.score = tokens[act+1:]
	return s, refExpr(s.score, 0) != nil
}

var refEndings = makeRefEndings()

func makeRefEndings() [][]refToken {
	endings := []string{"", "a = 1; reject;", "= 1; reject;"}
	for _, operand := range []string{"", "1"} {
		for _, end := range []string{";", " reject;", "; reject;"} {
			for brackets := 0; brackets <= 8; brackets++ {
				endings = append(endings, operand+strings.Repeat(")", brackets)+end)
			}
		}
	}
	lists := [][]refToken{}
	for _, ending := range endings {
		tokens, _ := refTokens(ending)
		lists = append(lists, tokens)
	}
	return lists
}

// refBegins tells whether a policy begins with these tokens, by trying all the ways to end one.
func refBegins(tokens []refToken) bool {
	for _, ending := range refEndings {
		whole := append(append([]refToken{}, tokens...), ending...)
		if _, ok := refStatements(whole); ok {
			return true
		}
	}
	return false
}

func refRead(text string) ([]refToken, []refStatement, api.Errno, int) {
	if len(text) > 400 {
		return nil, nil, api.ErrLong, 0
	}
	tokens, bad := refTokens(text)
	if bad >= 0 {
		return nil, nil, api.ErrToken, bad
	}
	statements, ok := refStatements(tokens)
	if ok {
		return tokens, statements, api.OK, 0
	}
	// If a policy begins with some tokens, one begins with fewer of them too.
	wrong := sort.Search(len(tokens), func(i int) bool { return !refBegins(tokens[:i+1]) })
	if wrong < len(tokens) {
		return nil, nil, api.ErrSyntax, tokens[wrong].place
	}
	return nil, nil, api.ErrSyntax, len(text)
}

func (n *refNode) shape() string {
	switch {
	case n.left == nil:
		return n.op.text
	case n.right == nil:
		return "[" + n.op.text + " " + n.left.shape() + "]"
	}
	return "[" + n.left.shape() + " " + n.op.text + " " + n.right.shape() + "]"
}

func refShape(tokens []refToken) string {
	statements, ok := refStatements(tokens)
	if !ok {
		return "none"
	}
	shape := ""
	for _, s := range statements {
		shape += s.name.text
		for _, expr := range [][]refToken{s.value, s.when, s.score} {
			shape += ";"
			if expr != nil {
				shape += refExpr(expr, 0).shape()
			}
		}
	}
	return shape
}

// refUnbracketed takes away pair after pair of brackets, as long as everything binds as before.
func refUnbracketed(tokens []refToken) []refToken {
	shape := refShape(tokens)
	for i := 0; i < len(tokens); i++ {
		if tokens[i].text != "(" {
			continue
		}
		less := refWithoutPair(tokens, i)
		if refShape(less) == shape {
			tokens = less
			i = -1
		}
	}
	return tokens
}

func refWithoutPair(tokens []refToken, open int) []refToken {
	level, end := 1, open
	for level > 0 {
		end++
		switch tokens[end].text {
		case "(":
			level++
		case ")":
			level--
		}
	}
	less := append([]refToken{}, tokens[:open]...)
	less = append(less, tokens[open+1:end]...)
	return append(less, tokens[end+1:]...)
}

func refPrint(text string) (string, api.Errno, int) {
	tokens, _, err, place := refRead(text)
	if err != api.OK {
		return "", err, place
	}
	tokens = refUnbracketed(tokens)
	plain := ""
	for i, t := range tokens {
		piece := t.text
		if refNumber.MatchString(piece) {
			if piece = strings.TrimLeft(piece, "0"); piece == "" {
				piece = "0"
			}
		}
		plain += piece
		if i == len(tokens)-1 {
			break
		}
		next := tokens[i+1].text
		switch {
		case t.text == ";":
			plain += "\n"
		case t.text == "(" || t.text == "-" && !betweenOperands(tokens, i) || next == ")" || next == ";":
		default:
			plain += " "
		}
	}
	return plain, api.OK, 0
}

type refMeant struct {
	kind  string
	parts int
}

// refKind tells a node's kind, its parts, and the place of the first operator that does not fit, or -1.
func (n *refNode) refKind(lets map[string]refMeant) (refMeant, int) {
	if n.left == nil {
		if meant, ok := lets[n.op.text]; ok {
			return meant, -1
		}
		switch n.op.text {
		case "true", "false":
			return refMeant{"truth", 1}, -1
		case "dry", "cold", "safe", "need", "has":
			return refMeant{"class", 1}, -1
		}
		return refMeant{"number", 1}, -1
	}
	left, bad := n.left.refKind(lets)
	if bad >= 0 {
		return left, bad
	}
	takes := left.kind
	parts := left.parts + 1
	if n.right != nil {
		right, bad := n.right.refKind(lets)
		if bad >= 0 {
			return right, bad
		}
		if right.kind != left.kind {
			takes = "unlike"
		}
		parts += right.parts
	}
	want, makes := takes, "truth"
	switch n.op.text {
	case "+", "-", "*", "/", "%":
		want, makes = "number", "number"
	case "<", "<=":
		want = "number"
	case "and", "or", "not":
		want = "truth"
	}
	if takes != want || takes == "unlike" {
		return refMeant{}, n.op.place
	}
	return refMeant{makes, parts}, -1
}

func refBadName(tokens []refToken) int {
	earlier := map[string]bool{}
	now := ""
	for i, t := range tokens {
		switch {
		case t.text == ";" && now != "":
			earlier[now] = true
			now = ""
		case !t.isName():
		case i > 0 && tokens[i-1].text == "let":
			if earlier[t.text] {
				return t.place
			}
			now = t.text
		case !earlier[t.text]:
			return t.place
		}
	}
	return -1
}

func refCheck(text string) (api.Errno, int) {
	tokens, statements, err, place := refRead(text)
	if err != api.OK {
		return err, place
	}
	if bad := refBadName(tokens); bad >= 0 {
		return api.ErrName, bad
	}
	lets := map[string]refMeant{}
	parts := 0
	for _, s := range statements {
		for i, expr := range [][]refToken{s.value, s.when, s.score} {
			if expr == nil {
				continue
			}
			meant, bad := refExpr(expr, 0).refKind(lets)
			if bad >= 0 {
				return api.ErrType, bad
			}
			if i == 1 && meant.kind != "truth" || i == 2 && meant.kind != "number" {
				return api.ErrType, expr[0].place
			}
			if i == 0 {
				lets[s.name.text] = meant
			} else {
				parts += meant.parts
			}
		}
	}
	if parts > 150 {
		return api.ErrBig, 0
	}
	return api.OK, 0
}
