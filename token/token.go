// Package token cuts the text of a policy into its tokens.
package token

import "slots/api"

// Token is one token of a policy: its kind, how many bytes stand ahead of it, and its own bytes.
type Token struct {
	Kind, Place int
	Text        string
}

// The kinds of tokens. End stands behind the last token, so that an error there has a place too.
const (
	End    = 0
	Number = 1
	Name   = 2
)

// The kinds of the words that have a meaning, in the order of the table words.
// Classes and attributes stand in the order of their numbers in package api.
const (
	Let    = 3
	When   = 4
	Score  = 5
	Reject = 6
	And    = 7
	Or     = 8
	Not    = 9
	True   = 10
	False  = 11
	Dry    = 12
	Cold   = 13
	Safe   = 14
	Size   = 15
	Speed  = 16
	Need   = 17
	Zone   = 18
	Cap    = 19
	Used   = 20
	Has    = 21
)

// The kinds of the signs, in the order of the table signs.
const (
	Semicolon = 22
	Equal     = 23
	Unequal   = 24
	Less      = 25
	Most      = 26
	Plus      = 27
	Minus     = 28
	Times     = 29
	Divide    = 30
	Modulo    = 31
	Open      = 32
	Close     = 33
)

var words = [19]string{
	"let", "when", "score", "reject", "and", "or", "not", "true", "false", "dry",
	"cold", "safe", "size", "speed", "need", "zone", "cap", "used", "has",
}

var signs = [12]string{";", "=", "!=", "<", "<=", "+", "-", "*", "/", "%", "(", ")"}

// Scan cuts a text into its tokens, with one of the kind End behind them.
// If a byte begins no token, there are none: it tells false and the place of the first such byte.
func Scan(text string) ([]Token, bool, int) {
	tokens := []Token{}
	at := 0
	for at < len(text) {
		if isBlank(text[at]) {
			at++
			continue
		}
		rest := text[at:]
		kind, n := first(rest)
		if n == 0 {
			return nil, false, at
		}
		tokens = append(tokens, Token{Kind: kind, Place: at, Text: rest[:n]})
		at += n
	}
	tokens = append(tokens, Token{Kind: End, Place: at})
	return tokens, true, 0
}

// first tells the kind and the length of the token with which a text begins; the length 0, if there is none.
func first(text string) (int, int) {
	digits := digitRow(text)
	if digits > api.MaxDigits {
		return End, 0
	}
	if digits > 0 {
		return Number, digits
	}
	letters := letterRow(text)
	if letters > api.MaxWord {
		return End, 0
	}
	if letters > 0 {
		return wordKind(text[:letters]), letters
	}
	return firstSign(text)
}

// firstSign tells the kind and the length of the longest sign with which a text begins.
func firstSign(text string) (int, int) {
	kind := End
	longest := 0
	for i := 0; i < len(signs); i++ {
		n := len(signs[i])
		if n > longest && n <= len(text) && text[:n] == signs[i] {
			kind = Semicolon + i
			longest = n
		}
	}
	return kind, longest
}

func wordKind(word string) int {
	for i := 0; i < len(words); i++ {
		if words[i] == word {
			return Let + i
		}
	}
	return Name
}

func digitRow(text string) int {
	n := 0
	for n < len(text) && text[n] >= '0' && text[n] <= '9' {
		n++
	}
	return n
}

func letterRow(text string) int {
	n := 0
	for n < len(text) && text[n] >= 'a' && text[n] <= 'z' {
		n++
	}
	return n
}

func isBlank(b byte) bool {
	return b == ' ' || b == '\n'
}
