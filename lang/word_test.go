package lang

import (
	"strings"
	"testing"
)

func TestIsName(t *testing.T) {
	for _, text := range []string{"a", "z", "eightlet", "uses", "us", "none", "two", "iff"} {
		if !IsName(text) {
			t.Errorf("P4: %q is no name", text)
		}
	}
	for _, text := range []string{"", "ninelette", "A", "aB", "a1", "1", "a ", " a", "a_b", "é", "`", "{", "\x00", "\xff",
		"use", "pub", "let", "int", "bool", "true", "false", "if", "then", "else", "end", strings.Repeat("a", 1<<20)} {
		if IsName(text) {
			t.Errorf("P4: %.20q is a name", text)
		}
	}
}

func TestIsFile(t *testing.T) {
	for text, want := range map[string]bool{"a": true, "eightlet": true, "no": true, "twos": true, "none": false, "two": false, "use": false, "": false, "ninelette": false} {
		if got := IsFile(text); got != want {
			t.Errorf("P3: IsFile(%q) = %t", text, got)
		}
	}
}
