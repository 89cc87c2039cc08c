// Package lang reads texts of the small language: their tokens, their trees and what their exprs mean.
package lang

import (
	"strconv"
	"strings"
)

// Token is a piece of a text, and where it begins. The END is the one whose text is empty.
type Token struct {
	Text         string
	Line, Column int
}

// ReadTokens answers the tokens of a text, and at last the END.
func ReadTokens(text string) []Token {
	var tokens []Token
	line, lineStart := 1, 0
	for at := 0; at < len(text); {
		size := 1
		switch text[at] {
		case '\n':
			line, lineStart = line+1, at+1
		case ' ', '\t':
		case '#':
			size = commentSize(text[at:])
		default:
			size = tokenSize(text[at:])
			tokens = append(tokens, Token{text[at : at+size], line, at - lineStart + 1})
		}
		at += size
	}
	return append(tokens, Token{"", line, len(text) - lineStart + 1})
}

// commentSize leaves the newline out: it is read as a blank, which counts the line.
func commentSize(text string) int {
	if size := strings.IndexByte(text, '\n'); size >= 0 {
		return size
	}
	return len(text)
}

func tokenSize(text string) int {
	switch {
	case isLetter(text[0]):
		return runOf(text, isLetter)
	case isDigit(text[0]):
		return runOf(text, isDigit)
	case strings.HasPrefix(text, "=="):
		return 2
	}
	return 1
}

// WriteTokens answers the tokens as one text, each with its place behind it.
func WriteTokens(tokens []Token) string {
	var out strings.Builder
	for i, token := range tokens {
		if i > 0 {
			out.WriteByte(' ')
		}
		out.WriteString(token.Text)
		out.WriteByte('@')
		out.WriteString(strconv.Itoa(token.Line))
		out.WriteByte(':')
		out.WriteString(strconv.Itoa(token.Column))
	}
	return out.String()
}
