package lang

import (
	"slices"
	"strings"
	"testing"
)

func exprOf(t *testing.T, text string) Expr {
	t.Helper()
	tree := ReadTree(ReadTokens("let x:int=" + text + ";"))
	if len(tree.Items) != 1 || tree.Fault != NoFault {
		t.Fatalf("%q is no expr", text)
	}
	return tree.Items[0].Expr
}

func TestNames(t *testing.T) {
	for _, c := range []struct{ text, want string }{
		{"1", ""}, {"true", ""}, {"1+2==3*4", ""},
		{"a", "a"}, {"a+a*a", "a"}, {"b+a", "b a"}, {"b*a+b", "b a"}, {"c==b+a*c", "c b a"},
		{"(b+a)*(c+a)", "b a c"},
		{"if c then b else a end", "c b a"}, {"if a then if b then a else d end else c+b end", "a b d c"},
	} {
		if got := Names(exprOf(t, c.text)); !slices.Equal(got, strings.Fields(c.want)) {
			t.Errorf("P4: the names of %q are %q, want %q", c.text, got, c.want)
		}
	}
}

func TestNamesAreNew(t *testing.T) {
	expr := exprOf(t, "a+b+c")
	names := Names(expr)
	for i := range names[:cap(names)] {
		names[:cap(names)][i] = "spoiled"
	}
	if got := Names(expr); !slices.Equal(got, []string{"a", "b", "c"}) {
		t.Errorf("P2: the names are %q behind a list that was written into", got)
	}
}

func TestTypeOf(t *testing.T) {
	meanings := map[string]Meaning{"i": {Type: Int}, "o": {Type: Bool}, "n": {}}
	for _, c := range []struct{ text, want string }{
		{"1", "int"}, {"true", "bool"}, {"false", "bool"}, {"i", "int"}, {"o", "bool"}, {"n", ""}, {"missing", ""},
		{"1+i", "int"}, {"i*2", "int"}, {"i+o", ""}, {"o+i", ""}, {"o+o", ""}, {"o*o", ""}, {"true*1", ""}, {"n+1", ""}, {"1+n", ""}, {"n+n", ""}, {"n*n", ""},
		{"i==1", "bool"}, {"o==true", "bool"}, {"i==o", ""}, {"o==1", ""}, {"n==n", ""}, {"n==1", ""}, {"o==n", ""},
		{"(1==1)==o", "bool"}, {"(1==1)+1", ""}, {"(i+o)==(i+o)", ""},
		{"if o then 1 else i end", "int"}, {"if true then o else false end", "bool"}, {"if i==1 then 1 else 2 end", "int"},
		{"if 1 then 1 else 2 end", ""}, {"if n then 1 else 2 end", ""}, {"if o then 1 else o end", ""}, {"if o then n else n end", ""}, {"if o then 1 else n end", ""},
		{"if n==n then 1 else 2 end", ""}, {"1+if o then 1 else 2 end", "int"}, {"1+if o then o else o end", ""},
	} {
		if got := TypeOf(exprOf(t, c.text), meanings); got != c.want {
			t.Errorf("P4: the type of %q is %q, want %q", c.text, got, c.want)
		}
	}
}

func TestReckon(t *testing.T) {
	meanings := map[string]Meaning{"i": {Worth: 12}, "top": {Worth: 999999999}, "yes": {Worth: ReadWorth("true")}, "no": {Worth: ReadWorth("false")}}
	for _, c := range []struct{ kind, text, want string }{
		{Int, "0", "0"}, {Int, "007", "7"}, {Int, "i", "12"}, {Int, "1+2*3", "7"}, {Int, "(1+2)*3", "9"}, {Int, "i*i+i", "156"},
		{Bool, "true", "true"}, {Bool, "false", "false"}, {Bool, "yes", "true"}, {Bool, "no", "false"},
		{Bool, "1==1", "true"}, {Bool, "1==2", "false"}, {Bool, "true==false", "false"}, {Bool, "false==false", "true"}, {Bool, "yes==no", "false"}, {Bool, "i==12", "true"},
		{Int, "if yes then 4 else 5 end", "4"}, {Int, "if no then 4 else 5 end", "5"}, {Int, "if 1==2 then 4 else if yes then 6 else 7 end end", "6"},
		{Int, "top", "999999999"}, {Int, "top+0", "999999999"}, {Int, "999999998+1", "999999999"}, {Int, "top*1", "999999999"}, {Int, "333333333*3", "999999999"}, {Int, "31622*31622", "999950884"},
		{Int, "top+1", "over"}, {Int, "500000000*2", "over"}, {Int, "top*top", "over"}, {Int, "top+top", "over"}, {Int, "31623*31623", "over"}, {Int, "top*top*top*top", "over"},
		{Int, "0*(top+1)", "over"}, {Int, "(top+1)*0", "over"}, {Int, "top*top*0", "over"}, {Bool, "top+1==top+1", "over"}, {Bool, "1==top+1", "over"}, {Bool, "top*2==1", "over"},
		{Int, "if yes then 1 else top+1 end", "over"}, {Int, "if no then top*2 else 1 end", "over"}, {Int, "if top+1==1 then 1 else 2 end", "over"}, {Int, "1+if yes then 1 else top+1 end", "over"},
	} {
		got := "over"
		if worth, ok := Reckon(exprOf(t, c.text), meanings); ok {
			got = WriteWorth(c.kind, worth)
		} else if worth != 0 {
			t.Errorf("P4: %q is over, and comes to %d", c.text, worth)
		}
		if got != c.want {
			t.Errorf("P4: %q comes to %s, want %s", c.text, got, c.want)
		}
	}
}

func TestWorth(t *testing.T) {
	for _, text := range []string{"0", "1", "7", "999999999"} {
		if got := WriteWorth(Int, ReadWorth(text)); got != text {
			t.Errorf("P4: %s is read and written as %s", text, got)
		}
	}
	for _, text := range []string{"true", "false"} {
		if got := WriteWorth(Bool, ReadWorth(text)); got != text {
			t.Errorf("P4: %s is read and written as %s", text, got)
		}
	}
}

func TestUsesAndNamed(t *testing.T) {
	tree := ReadTree(ReadTokens("use c;let x:int=1;use b;use c;pub let x:int=2;let b:int=3;use none;use"))
	if got := Uses(tree); !slices.Equal(got, []string{"c", "b", "none"}) {
		t.Errorf("P4: the files used are %q", got)
	}
	for name, want := range map[string]int{"x": 2, "b": 1, "c": 0, "none": 0, "y": 0} {
		if got := Named(tree, name); len(got) != want {
			t.Errorf("P4: of the name %s there are %d items, want %d", name, len(got), want)
		}
	}
	if got := Named(tree, "b")[0]; got.Number != tree.Items[5].Number {
		t.Errorf("P4: the item b is %v", got)
	}
	if got := len(Uses(Tree{})); got != 0 {
		t.Errorf("P4: an empty tree uses %d files", got)
	}
}
