// Package lex is layer 1: words of a program (shared/doc/01-lex.md).
package lex

import (
	"strings"

	"gossamer/api"
)

// The signs of two bytes stand first: so the first one that fits is the longest one that does.
var signs = [...]string{"->", "==", "\\", ".", "(", ")", "=", "{", "}", "|", "+", "-", "*", "/", "<"}

// noToken is what a text's reading panics with: where what is no token begins, and what is wrong with it.
type noToken struct {
	at int
	e  api.Errno
}

// All tells the tokens of s, or where the first thing begins that is none, and its error.
func All(s string) (l []api.Token, at int, e api.Errno) {
	defer func() {
		if no, ok := recover().(noToken); ok {
			l, at, e = nil, no.at, no.e
		}
	}()
	return tokens(s), 0, api.OK
}

// Text tells the texts of l, with one blank between any two.
func Text(l []api.Token) string {
	// Not strings.Join: of one token that would share its text with the answer.
	var b strings.Builder
	for i, t := range l {
		if i > 0 {
			b.WriteByte(' ')
		}
		b.WriteString(t.Text)
	}
	return b.String()
}

// Word tells if s is one of the words, which are no names.
func Word(s string) bool {
	switch s {
	case "let", "letrec", "in", "case", "of":
		return true
	}
	return false
}

func tokens(s string) []api.Token {
	var l []api.Token
	at := span(s, isBlank)
	for at < len(s) {
		t := token(s, at)
		l = append(l, t)
		at += len(t.Text)
		at += span(s[at:], isBlank)
	}
	return l
}

// token is the one that begins at that place of s.
func token(s string, at int) api.Token {
	rest := s[at:]
	if n := span(rest, isLetterOrDigit); n > 0 {
		return run(rest[:n], at)
	}
	for _, sign := range signs {
		if strings.HasPrefix(rest, sign) {
			return api.Token{Kind: api.TokSign, Text: sign, At: at}
		}
	}
	panic(noToken{at, api.ErrChar})
}

// run is the token of letters and digits that follow one another.
func run(s string, at int) api.Token {
	if span(s, isDigit) > 0 {
		return number(s, at)
	}
	if len(s) > api.MaxName {
		panic(noToken{at, api.ErrLong})
	}
	kind := api.TokCon
	switch {
	case Word(s):
		kind = api.TokWord
	case span(s, isSmall) > 0:
		kind = api.TokName
	}
	// Cloned: an answer shares no memory with an argument.
	return api.Token{Kind: kind, Text: strings.Clone(s), At: at}
}

func number(s string, at int) api.Token {
	// Ahead of the length: digits with letters behind them are never too long, but no number.
	if span(s, isDigit) < len(s) {
		panic(noToken{at, api.ErrChar})
	}
	if len(s) > api.MaxDigits || len(s) > 1 && s[0] == '0' {
		panic(noToken{at, api.ErrLong})
	}
	n := 0
	for _, r := range s {
		n = n*10 + int(r-'0')
	}
	return api.Token{Kind: api.TokInt, Text: strings.Clone(s), N: n, At: at}
}

// span is how many bytes at the beginning of s fit.
func span(s string, fits func(r rune) bool) int {
	for i, r := range s {
		if !fits(r) {
			return i
		}
	}
	return len(s)
}

func isBlank(r rune) bool { return r == ' ' || r == '\n' || r == '\t' }

// Letters are those of ASCII alone: package unicode would take others, too.
func isSmall(r rune) bool   { return 'a' <= r && r <= 'z' }
func isCapital(r rune) bool { return 'A' <= r && r <= 'Z' }
func isDigit(r rune) bool   { return '0' <= r && r <= '9' }

func isLetterOrDigit(r rune) bool { return isSmall(r) || isCapital(r) || isDigit(r) }
