// Package lex is layer 1, the lexer: see shared/doc/01-lex.md.
package lex

import (
	"strconv"
	"strings"

	"crosstree/api"
)

// maxHex is how many hexadecimal digits a number may have.
const maxHex = 16

var keywords = [...]string{
	"char", "int", "long", "void", "struct", "union", "if", "else",
	"while", "return", "break", "continue", "sizeof",
}

// operators are also the punctuators. Each one stands ahead of those that it begins with, so that the first one that fits is the longest.
var operators = [...]string{
	"->", "==", "!=", "<=", ">=", "<<", ">>",
	"(", ")", "[", "]", "{", "}", ";", ",", ".",
	"+", "-", "*", "/", "%", "&", "|", "^", "!", "~", "<", ">", "=",
}

// Word reports whether s is a keyword.
func Word(s string) bool {
	for _, k := range keywords {
		if s == k {
			return true
		}
	}
	return false
}

// Name reports whether s is a name.
func Name(s string) bool {
	if s == "" || len(s) > api.MaxName || isDigit(s[0]) {
		return false
	}
	return prefix(s, isWordByte) == len(s) && !Word(s)
}

// Tokens splits s into tokens. With an error, the offset is where the offending token or comment begins.
func Tokens(s string) ([]api.Token, int, api.Errno) {
	if len(s) > api.MaxBytes {
		return nil, 0, api.ErrSize
	}
	// The texts of the tokens are pieces of a copy, so that the answer shares no memory with the argument.
	s = strings.Clone(s)
	var l []api.Token
	at, e := 0, api.OK
scan:
	for at < len(s) {
		rest := s[at:]
		var t api.Token
		switch c := rest[0]; {
		case isSpace(c):
			at++
			continue scan
		case strings.HasPrefix(rest, "//"), strings.HasPrefix(rest, "/*"):
			n := comment(rest)
			if n == 0 {
				e = api.ErrSyntax
				break scan
			}
			at += n
			continue scan
		case isLetter(c):
			t, e = word(rest)
		case isDigit(c):
			t, e = number(rest)
		case c == '\'':
			t, e = character(rest)
		default:
			t, e = sign(rest)
		}
		if e != api.OK {
			break scan
		}
		t.At = at
		l = append(l, t)
		at += len(t.Text)
	}
	if e != api.OK {
		return nil, at, e
	}
	return l, 0, api.OK
}

// Text returns the texts of the tokens, separated by one space each.
func Text(l []api.Token) string {
	var b strings.Builder
	for i, t := range l {
		if i > 0 {
			b.WriteByte(' ')
		}
		b.WriteString(t.Text)
	}
	return b.String()
}

// comment is the length of the comment that s begins with, 0 if it is not terminated.
func comment(s string) int {
	end, needed := "\n", false
	if s[1] == '*' {
		end, needed = "*/", true
	}
	// The search begins behind the two bytes that open the comment: the star of /*/ ends nothing.
	i := strings.Index(s[2:], end)
	switch {
	case i >= 0:
		return 2 + i + len(end)
	case needed:
		return 0
	}
	return len(s)
}

// word reads the name or keyword that s begins with.
func word(s string) (api.Token, api.Errno) {
	n := prefix(s, isWordByte)
	if n > api.MaxName {
		return api.Token{}, api.ErrSize
	}
	if Word(s[:n]) {
		return api.Token{Kind: api.TokWord, Text: s[:n]}, api.OK
	}
	return api.Token{Kind: api.TokName, Text: s[:n]}, api.OK
}

// number reads the number that s begins with; s begins with a digit.
func number(s string) (api.Token, api.Errno) {
	start, end, base := 0, 1, 10
	if s[0] != '0' {
		end = prefix(s, isDigit)
	} else if n := hexDigits(s); n > 0 {
		start, end, base = 2, 2+n, 16
	}
	if end < len(s) && isWordByte(s[end]) {
		return api.Token{}, api.ErrSyntax
	}
	n, err := strconv.ParseInt(s[start:end], base, 64)
	if err != nil { // there are digits alone: the value is too great
		return api.Token{}, api.ErrSize
	}
	return api.Token{Kind: api.TokNumber, Text: s[:end], N: n}, api.OK
}

// hexDigits is how many hexadecimal digits a number that s begins with has, 0 if it is not hexadecimal.
func hexDigits(s string) int {
	if !strings.HasPrefix(s, "0x") {
		return 0
	}
	return min(prefix(s[2:], isHex), maxHex)
}

// character reads the character literal that s begins with; s begins with a single quote.
func character(s string) (api.Token, api.Errno) {
	if len(s) < 3 || s[2] != '\'' || !isPlain(s[1]) {
		return api.Token{}, api.ErrSyntax
	}
	return api.Token{Kind: api.TokNumber, Text: s[:3], N: int64(s[1])}, api.OK
}

// sign reads the operator or punctuator that s begins with.
func sign(s string) (api.Token, api.Errno) {
	for _, o := range operators {
		if strings.HasPrefix(s, o) {
			return api.Token{Kind: api.TokSign, Text: o}, api.OK
		}
	}
	return api.Token{}, api.ErrSyntax
}

// prefix is how many bytes at the beginning of s are of a kind.
func prefix(s string, is func(byte) bool) int {
	n := 0
	for n < len(s) && is(s[n]) {
		n++
	}
	return n
}

func isSpace(c byte) bool {
	return c == ' ' || c == '\t' || c == '\n' || c == '\r'
}

func isLetter(c byte) bool {
	return 'a' <= c && c <= 'z' || 'A' <= c && c <= 'Z' || c == '_'
}

func isDigit(c byte) bool {
	return '0' <= c && c <= '9'
}

func isHex(c byte) bool {
	return isDigit(c) || 'a' <= c && c <= 'f' || 'A' <= c && c <= 'F'
}

// isWordByte reports whether c may stand in a name behind its first byte.
func isWordByte(c byte) bool {
	return isLetter(c) || isDigit(c)
}

// isPlain reports whether c may stand in a character literal.
func isPlain(c byte) bool {
	return 32 <= c && c <= 126 && c != '\'' && c != '\\'
}
