package lang

import "almanac/api"

// IsName tells whether a text is a name of the language.
func IsName(text string) bool {
	return len(text) >= 1 && len(text) <= api.MaxName && runOf(text, isLetter) == len(text) && !isKeyword(text)
}

// IsFile tells whether a file may be called so. `none` and `two` are names,
// but Find answers them where it has no file to tell.
func IsFile(text string) bool {
	return IsName(text) && text != "none" && text != "two"
}

func isKeyword(text string) bool {
	switch text {
	case "use", "pub", "let", "int", "bool", "true", "false", "if", "then", "else", "end":
		return true
	}
	return false
}

func isNumber(text string) bool {
	return len(text) >= 1 && len(text) <= api.MaxDigits && runOf(text, isDigit) == len(text)
}

func isLetter(c byte) bool { return c >= 'a' && c <= 'z' }

func isDigit(c byte) bool { return c >= '0' && c <= '9' }

// runOf tells how many bytes of the kind stand together at the beginning.
func runOf(text string, kind func(byte) bool) int {
	n := 0
	for n < len(text) && kind(text[n]) {
		n++
	}
	return n
}
