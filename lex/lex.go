// Package lex is layer 1: a source as tokens.
package lex

import (
	"strconv"
	"strings"

	"furcate/api"
)

// All tells the tokens of a source, or the place and the error of the first that is none.
func All(src string) ([]api.Token, int, api.Errno) {
	if len(src) > api.MaxSource {
		return nil, 0, api.ErrBig
	}
	var out []api.Token
	at := 0
	put := func(kind int, text string, size int) {
		out = append(out, api.Token{Kind: kind, Text: text, At: at})
		at += size
	}
scan:
	for at < len(src) {
		rest := src[at:]
		switch {
		case blank(rest[0]):
			at++
		case strings.HasPrefix(rest, "//"):
			end := strings.IndexByte(rest, '\n')
			if end < 0 {
				break scan
			}
			at += end
		default:
			kind, size, e := first(rest)
			if e != api.OK {
				return nil, at, e
			}
			put(kind, said(kind, rest[:size]), size)
		}
	}
	at = len(src)
	put(api.TkEnd, "", 0)
	return out, 0, api.OK
}

// Line tells in which line a place is.
func Line(src string, at int) int {
	if at < 0 {
		return 1
	}
	return 1 + strings.Count(src[:min(at, len(src))], "\n")
}

// Word tells whether a name is one of the language's words.
func Word(s string) bool {
	switch s {
	case "fn", "let", "if", "else", "while", "return", "print", "input",
		"new", "len", "true", "false", "int", "bool", "text", "list":
		return true
	}
	return false
}

// first tells the kind and the size of the token with which s begins, as long as it can be.
func first(s string) (kind, size int, e api.Errno) {
	switch c := s[0]; {
	case digit(c):
		return number(s)
	case letter(c):
		return name(s)
	case c == '"':
		return text(s)
	}
	return sign(s)
}

// said tells a token's Text: of a text what stands between its signs.
func said(kind int, s string) string {
	if kind == api.TkText {
		return s[1 : len(s)-1]
	}
	return s
}

func number(s string) (kind, size int, e api.Errno) {
	size = run(s, digit)
	// ParseInt takes noughts ahead without a bound, so that the digits are counted too.
	if _, err := strconv.ParseInt(s[:size], 10, 64); err != nil || size > 19 {
		return 0, 0, api.ErrNumber
	}
	return api.TkInt, size, api.OK
}

func name(s string) (kind, size int, e api.Errno) {
	size = run(s, func(c byte) bool { return letter(c) || digit(c) || c == '_' })
	switch {
	case Word(s[:size]):
		return api.TkWord, size, api.OK
	case size > api.MaxName:
		return 0, 0, api.ErrName
	}
	return api.TkName, size, api.OK
}

func text(s string) (kind, size int, e api.Errno) {
	inside := run(s[1:], func(c byte) bool { return c >= 32 && c <= 126 && c != '"' })
	end := 1 + inside
	if end == len(s) || s[end] != '"' {
		return 0, 0, api.ErrText
	}
	if inside > api.MaxLit {
		return 0, 0, api.ErrBig
	}
	return api.TkText, end + 1, api.OK
}

func sign(s string) (kind, size int, e api.Errno) {
	for _, two := range [...]string{"||", "&&", "<=", "==", "!="} {
		if strings.HasPrefix(s, two) {
			return api.TkSign, 2, api.OK
		}
	}
	if strings.IndexByte("(){}[],;=<+-*/%!", s[0]) >= 0 {
		return api.TkSign, 1, api.OK
	}
	return 0, 0, api.ErrByte
}

// run tells how many bytes at the beginning of s are of a kind.
func run(s string, is func(byte) bool) int {
	n := 0
	for n < len(s) && is(s[n]) {
		n++
	}
	return n
}

func blank(c byte) bool { return c == ' ' || c == '\t' || c == '\r' || c == '\n' }

func digit(c byte) bool { return c >= '0' && c <= '9' }

func letter(c byte) bool { return c >= 'a' && c <= 'z' || c >= 'A' && c <= 'Z' }
