package lang

import (
	"math/rand"
	"testing"
)

func TestTokens(t *testing.T) {
	for _, c := range []struct{ text, want string }{
		{"", "@1:1"},
		{"\n", "@2:1"},
		{" \t ", "@1:4"},
		{"\t\n\n ", "@3:2"},
		{"#", "@1:2"},
		{"#use b;", "@1:8"},
		{"## #\n#", "@2:2"},
		{"a#b#c\n d", "a@1:1 d@2:2 @2:3"},
		{"let x", "let@1:1 x@1:5 @1:6"},
		{"letx", "letx@1:1 @1:5"},
		{"ninelette0123456789", "ninelette@1:1 0123456789@1:10 @1:20"},
		{"a1b", "a@1:1 1@1:2 b@1:3 @1:4"},
		{"aBc", "a@1:1 B@1:2 c@1:3 @1:4"},
		{"=", "=@1:1 @1:2"},
		{"==", "==@1:1 @1:3"},
		{"===", "==@1:1 =@1:3 @1:4"},
		{"====", "==@1:1 ==@1:3 @1:5"},
		{"= =", "=@1:1 =@1:3 @1:4"},
		{"=#\n=", "=@1:1 =@2:1 @2:2"},
		{"((;;", "(@1:1 (@1:2 ;@1:3 ;@1:4 @1:5"},
		{"a\r\nb", "a@1:1 \r@1:2 b@2:1 @2:2"},
		{"\v\f\x00", "\v@1:1 \f@1:2 \x00@1:3 @1:4"},
		{"\u00a0", "\xc2@1:1 \xa0@1:2 @1:3"},
		{"é\n\xff", "\xc3@1:1 \xa9@1:2 \xff@2:1 @2:2"},
		{"# é\né", "\xc3@2:1 \xa9@2:2 @2:3"},
	} {
		if got := WriteTokens(ReadTokens(c.text)); got != c.want {
			t.Errorf("P4: tokens of %q = %q, want %q", c.text, got, c.want)
		}
	}
}

// TestPlaces holds each token's place against one counted byte by byte.
func TestPlaces(t *testing.T) {
	random := rand.New(rand.NewSource(1))
	const bytes = "ab09= \t\n#;(\xc3A"
	for range 2000 {
		text := make([]byte, random.Intn(30))
		for i := range text {
			text[i] = bytes[random.Intn(len(bytes))]
		}
		checkPlaces(t, string(text))
	}
}

func checkPlaces(t *testing.T, text string) {
	t.Helper()
	tokens := ReadTokens(text)
	line, column, at := 1, 1, 0
	step := func() {
		column++
		if text[at] == '\n' {
			line, column = line+1, 1
		}
		at++
	}
	for _, token := range tokens {
		for comment := false; at < len(text) && (line < token.Line || column < token.Column); step() {
			c := text[at]
			comment = c != '\n' && (comment || c == '#')
			if !comment && c != ' ' && c != '\t' && c != '\n' {
				t.Fatalf("P4: %q: the byte %d is in no token", text, at)
			}
		}
		if line != token.Line || column != token.Column || text[at:min(at+len(token.Text), len(text))] != token.Text {
			t.Fatalf("P4: %q: no token %q at %d:%d", text, token.Text, token.Line, token.Column)
		}
		for range len(token.Text) {
			step()
		}
	}
	if at != len(text) || tokens[len(tokens)-1].Text != "" {
		t.Fatalf("P4: %q: the END is not behind the last byte", text)
	}
}
