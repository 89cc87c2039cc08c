package lang

import (
	"strings"
	"testing"
)

func treeOf(text string) string { return WriteTree(ReadTree(ReadTokens(text))) }

func TestItems(t *testing.T) {
	for _, c := range []struct{ text, want string }{
		{"", ""},
		{" # nothing\n", ""},
		{"use b;", "1:use b\n"},
		{"use none;use two;", "1:use none\n4:use two\n"},
		{"use#\nb\t;let x:int=1;pub let y:bool=true;", "1:use b\n4:let x:int=1\n12:pub y:bool=true\n"},
		{"let x:int=1;use b;let x:int=2;", "1:let x:int=1\n8:use b\n11:let x:int=2\n"},
		{"use", "!1"},
		{"use;", "!1"},
		{"use let;", "!1"},
		{"use 1;", "!1"},
		{"use ninelette;", "!1"},
		{"use b", "!2"},
		{"use b c;", "!2"},
		{"use b;;", "1:use b\n!3"},
		{"use b;end", "1:use b\n!3"},
		{"use b;use", "1:use b\n!4"},
		{";", "!0"},
		{"b", "!0"},
		{"pub", "!1"},
		{"pub x", "!1"},
		{"pub use b;", "!1"},
		{"pub pub let x:int=1;", "!1"},
		{"let", "!1"},
		{"let let", "!1"},
		{"let ninelette:int=1;", "!1"},
		{"let x", "!2"},
		{"let x=1;", "!2"},
		{"let x:", "!3"},
		{"let x:true=1;", "!3"},
		{"let x:ints=1;", "!3"},
		{"let x:int", "!4"},
		{"let x:int==1;", "!4"},
		{"let x:int=", "!5"},
		{"let x:int=1", "!6"},
		{"let x:int=1 use b;", "!6"},
		{"pub let x:int=1", "!7"},
		{"use b;pub let x:int=1+;use c;", "1:use b\n!11"},
	} {
		if got := treeOf(c.text); got != c.want {
			t.Errorf("P4: tree of %q = %q, want %q", c.text, got, c.want)
		}
	}
}

func TestExprs(t *testing.T) {
	for _, c := range []struct{ text, want string }{
		{"0", "0"}, {"007", "7"}, {"000000000", "0"}, {"000000012", "12"}, {"999999999", "999999999"},
		{"true", "true"}, {"false", "false"}, {"none", "none"}, {"trues", "trues"},
		{"1+2", "(1+2)"}, {"1+2+3", "((1+2)+3)"}, {"1+(2+3)", "(1+(2+3))"},
		{"1*2*3", "((1*2)*3)"}, {"1*2+3*4", "((1*2)+(3*4))"}, {"(1+2)*3", "((1+2)*3)"},
		{"1==2", "(1==2)"}, {"a+b==c*d", "((a+b)==(c*d))"}, {"(a==b)==(c==d)", "((a==b)==(c==d))"},
		{"((x))", "x"}, {"(1)*(2)", "(1*2)"},
		{"if a then b else c end", "(a?b:c)"},
		{"if a==b then c+d else e*f end", "((a==b)?(c+d):(e*f))"},
		{"if if a then b else c end then d else if e then f else g end end", "((a?b:c)?d:(e?f:g))"},
		{"2*if a then 1 else 2 end+3", "((2*(a?1:2))+3)"},
	} {
		if got := treeOf("let x:int=" + c.text + ";"); got != "1:let x:int="+c.want+"\n" {
			t.Errorf("P4: tree of the expr %q = %q, want %q", c.text, got, c.want)
		}
	}
	for _, c := range []struct{ text, want string }{
		{"", "!5"}, {"+1", "!5"}, {" ==", "!5"}, {")", "!5"}, {"then", "!5"}, {"int", "!5"}, {"ninelette", "!5"},
		{"1234567890", "!5"}, {"0000000000", "!5"}, {"-1", "!5"},
		{"1+", "!7"}, {"1*", "!7"}, {"1==", "!7"}, {"1+*2", "!7"}, {"1=2", "!6"}, {"1 2", "!6"}, {"a b", "!6"}, {"1)", "!6"}, {"a end", "!6"},
		{"1==2==3", "!8"}, {"1==2+3==4", "!10"}, {"(1==2==3)", "!9"},
		{"(", "!6"}, {"()", "!6"}, {"(1", "!7"}, {"(1 then", "!7"}, {"((1)", "!9"},
		{"if", "!6"}, {"if a", "!7"}, {"if a else", "!7"}, {"if a then", "!8"}, {"if a then b", "!9"}, {"if a then b end", "!9"},
		{"if a then b else", "!10"}, {"if a then b else c", "!11"}, {"if a then b else c else d end", "!11"}, {"if (a then b) else c end", "!8"},
	} {
		if got := treeOf("let x:int=" + c.text + ";"); got != c.want {
			t.Errorf("P4: tree of the expr %q = %q, want %q", c.text, got, c.want)
		}
	}
}

func TestNesting(t *testing.T) {
	brackets := func(n int, inside string) string {
		return strings.Repeat("(", n) + inside + strings.Repeat(")", n)
	}
	choice := "if a then b else c end"
	for _, c := range []struct{ text, want string }{
		{brackets(20, "1"), "1:let x:int=1\n"},
		{brackets(21, "1"), "!25"},
		{brackets(22, "1"), "!25"},
		{brackets(19, choice), "1:let x:int=(a?b:c)\n"},
		{brackets(20, choice), "!25"},
		{brackets(20, "1") + "+" + brackets(20, "2"), "1:let x:int=(1+2)\n"},
		{brackets(20, "1") + "+" + brackets(21, "2"), "!67"},
		{"if " + brackets(19, "a") + " then " + brackets(19, "b") + " else " + brackets(19, "c") + " end", "1:let x:int=(a?b:c)\n"},
		{"if " + brackets(20, "a") + " then b else c end", "!25"},
		{"if a then " + brackets(20, "b") + " else c end", "!27"},
		{"if a then b else " + brackets(20, "c") + " end", "!29"},
		{strings.Repeat("if ", 21), "!25"},
		{strings.Repeat("if a then ", 20) + "(", "!65"},
	} {
		if got := treeOf("let x:int=" + c.text + ";"); got != c.want {
			t.Errorf("P4: tree of the expr %q = %q, want %q", c.text, got, c.want)
		}
	}
	two := "let x:int=" + brackets(20, "1") + ";let y:int=" + brackets(20, "2") + ";"
	if got := treeOf(two); got != "1:let x:int=1\n48:let y:int=2\n" {
		t.Errorf("P4: tree of %q = %q", two, got)
	}
}

func TestExports(t *testing.T) {
	for _, c := range []struct{ text, want string }{
		{"", ""},
		{"use b;let x:int=1;", ""},
		{"pub let z:int=1;pub let ab:int=1;pub let b:int=1;pub let a:int=1;", "a ab b z"},
		{"pub let x:int=1;pub let a:int=2;pub let x:bool=true;", "a x"},
		{"let x:int=1;pub let x:int=2;", "x"},
		{"pub let a:int=1;pub let b:int=;pub let c:int=1;", "a"},
	} {
		if got := strings.Join(Exports(ReadTree(ReadTokens(c.text))), " "); got != c.want {
			t.Errorf("P4: exports of %q = %q, want %q", c.text, got, c.want)
		}
	}
}

// TestSameTree: trees are the same just if they are written the same.
func TestSameTree(t *testing.T) {
	texts := []string{
		"", " #\n", "use b;", "use\tb ;", "use c;", "use b", "use b;;", "use b;use b;", ";", "use",
		"let b:int=1;", "let b:int=01;", "let b:int=(1);", "let b:int=2;", "let b:bool=1;", "pub let b:int=1;", "let c:int=1;", "let b:int=1;;",
		"let b:int=1+2+3;", "let b:int=(1+2)+3;", "let b:int=1+(2+3);", "let b:int=1*2+3;", "let b:int=1*(2+3);", "let b:int=1==2;", "let b:int=2==1;",
		"let b:int=x;", "let b:int=true;", "let b:int=false;", "let b:int=if x then 1 else 2 end;", "let b:int=if (x) then 1 else 2 end;", "let b:int=if x then 2 else 1 end;",
	}
	for _, one := range texts {
		for _, other := range texts {
			a, b := ReadTree(ReadTokens(one)), ReadTree(ReadTokens(other))
			if got, want := SameTree(a, b), WriteTree(a) == WriteTree(b); got != want {
				t.Errorf("P5: the trees of %q and %q are the same: %t, want %t", one, other, got, want)
			}
		}
	}
}
