package almanac

import (
	"strconv"
	"strings"
	"testing"

	"almanac/api"
)

// with is a session with files, each told as its name, a colon and its text.
func with(t *testing.T, files ...string) *Session {
	t.Helper()
	s := New()
	for _, told := range files {
		file, text, _ := strings.Cut(told, ":")
		wantSet(t, s, file, text, api.OK)
	}
	return s
}

func TestFind(t *testing.T) {
	for _, c := range []struct{ a, b, c, want string }{
		{"", "", "", "none"},
		{"let x:int=1;", "pub let x:int=1;", "", "a"},
		{"pub let x:bool=1;use b;", "pub let x:int=1;", "", "a"},
		{"let x:int=1;pub let x:int=1;use b;", "pub let x:int=1;", "", "two"},
		{"use b;", "pub let x:int=1;", "", "b"},
		{"use b;", "let x:int=1;", "", "none"},
		{"", "pub let x:int=1;", "", "none"},
		{"use b;use b;", "pub let x:int=1;", "", "b"},
		{"use b;", "pub let x:int=1;let x:int=1;pub let x:int=1;", "", "b"},
		{"use b;use c;", "pub let x:int=1;", "pub let x:int=1;", "two"},
		{"use c;use b;use c;", "pub let x:int=1;", "let x:int=1;", "b"},
		{"use c;use b;", "use c;", "pub let x:int=1;", "c"},
		{"use b;", "use c;", "pub let x:int=1;", "none"},
		{"use b", "pub let x:int=1;", "", "none"},
		{"use b;use c", "pub let x:int=1;", "pub let x:int=1;", "b"},
		{"use b;", "pub let x:int=1", "", "none"},
		{"use b;let x:int=", "pub let x:int=1;", "", "b"},
		{"use a;", "", "", "none"},
		{"use a;use two;use none;use gone;use b;", "pub let x:int=1;", "", "b"},
		{"use x;", "", "", "none"},
	} {
		s := with(t, "a:"+c.a, "b:"+c.b, "c:"+c.c)
		wantOf(t, s, api.Find, "a", "x", c.want)
	}
	s := with(t, "a:use b;let none:int=1;let two:int=1;let two:int=2;", "b:pub let a:int=1;")
	wantOf(t, s, api.Find, "a", "none", "a")
	wantOf(t, s, api.Find, "a", "two", "two")
	wantOf(t, s, api.Find, "a", "a", "b")
}

// TestThree: more than two files that export a name are no other than two.
func TestThree(t *testing.T) {
	s := with(t, "a:use b;use c;use d;let y:int=x;", "b:pub let x:int=1;", "c:pub let x:int=1;", "d:pub let x:int=1;")
	wantOf(t, s, api.Find, "a", "x", "two")
	wantOf(t, s, api.Type, "a", "y", "bad")
}

func TestType(t *testing.T) {
	const b = "b:pub let j:int=10;pub let k:bool=1;pub let m:int=1;let m:int=2;let h:int=1;pub let lie:int=gone;"
	for _, c := range []struct{ item, want string }{
		{"int=1", "int"}, {"bool=1", "bad"}, {"bool=1==1", "bool"}, {"int=1==1", "bad"}, {"int=1+true", "bad"},
		{"int=j", "int"}, {"bool=j", "bad"},
		// what the item says holds, whatever it is
		{"bool=k", "bool"}, {"int=lie+1", "int"},
		{"int=m", "bad"}, {"int=h", "bad"}, {"int=gone", "bad"}, {"bool=gone==gone", "bad"},
		{"int=x", "int"}, {"bool=x", "bool"}, {"bool=x==1", "bad"},
		{"int=dup", "bad"}, {"int=own", "int"}, {"int=a", "bad"}, {"int=b", "bad"},
	} {
		s := with(t, "a:use b;let own:int=1;let dup:int=1;pub let dup:int=1;let x:"+c.item+";", b)
		wantOf(t, s, api.Type, "a", "x", c.want)
		wantOf(t, s, api.Type, "a", "j", "none")
		wantOf(t, s, api.Type, "a", "b", "none")
		wantOf(t, s, api.Type, "a", "dup", "none")
		wantOf(t, s, api.Type, "gone", "x", "none")
	}
}

func TestValue(t *testing.T) {
	const b = "b:use a;pub let j:int=10;pub let big:int=999999999+j;pub let wrong:int=true;pub let loop:int=loop;pub let yes:bool=j==10;"
	for _, c := range []struct{ item, want string }{
		{"int=1", "1"}, {"int=000", "0"}, {"bool=true", "true"}, {"bool=1==2", "false"}, {"int=true", "bad"},
		{"int=j", "10"}, {"int=j*j+own", "107"}, {"bool=yes", "true"}, {"bool=yes==false", "false"}, {"int=if yes then j else own end", "10"},
		{"int=big", "over"}, {"bool=big==big", "over"}, {"int=if yes then j else big end", "over"}, {"int=0*big", "over"},
		{"int=wrong", "bad"}, {"int=loop", "cycle"}, {"int=gone", "bad"},
		{"int=big+wrong", "bad"}, {"int=wrong+big", "bad"}, {"int=big+wrong+loop", "cycle"}, {"int=loop+wrong+big", "cycle"}, {"int=wrong+loop", "cycle"}, {"int=big+loop", "cycle"},
		{"int=if yes then 1 else loop end", "cycle"}, {"int=if yes then 1 else x end", "cycle"}, {"int=big+x", "cycle"},
		// of what is bad nothing is needed
		{"bool=x+loop", "bad"}, {"int=x+true", "bad"}, {"int=loop+gone", "bad"},
		{"int=999999999", "999999999"}, {"int=999999999+1", "over"}, {"int=999999999*1", "999999999"}, {"int=999999999*999999999", "over"},
	} {
		s := with(t, "a:use b;let own:int=7;let x:"+c.item+";", b)
		wantOf(t, s, api.Value, "a", "x", c.want)
		wantOf(t, s, api.Value, "a", "j", "none")
		wantOf(t, s, api.Value, "gone", "x", "none")
	}
}

// TestCycles asks for each item first, for each is another way into the cycles.
func TestCycles(t *testing.T) {
	for _, c := range []struct{ files, wants string }{
		{"a:let p:int=q; let q:int=p;", "p:cycle q:cycle"},
		{"a:let p:int=p;let q:int=1;", "p:cycle q:1"},
		{"a:let p:int=q;let q:int=r;let r:int=q;let s:int=2;", "p:cycle q:cycle r:cycle s:2"},
		{"a:let p:int=q+s;let q:int=p+r;let r:int=q+s;let s:int=r;", "p:cycle q:cycle r:cycle s:cycle"},
		{"a:let p:int=q;let q:int=r;let r:bool=p;", "p:bad q:bad r:bad"},
		{"a:let p:int=q;let q:int=r;let r:int=true+p;", "p:bad q:bad r:bad"},
		{"a:let p:int=s+q;let q:int=r+t;let r:int=s;let s:int=3;let t:int=999999999+s;", "p:over q:over r:3 s:3 t:over"},
		{"a:use b;pub let p:int=q;|b:use a;pub let q:int=p;", "p:cycle"},
		{"a:use b;let p:int=q;|b:use a;pub let q:int=p;", "p:bad"},
		{"a:use b;let x:int=y;pub let z:int=1;|b:use a;pub let y:int=x+z;let x:int=z;", "x:2 z:1"},
	} {
		for _, first := range strings.Fields(c.wants) {
			s := with(t, strings.Split(c.files, "|")...)
			for _, want := range append([]string{first}, strings.Fields(c.wants)...) {
				name, value, _ := strings.Cut(want, ":")
				wantOf(t, s, api.Value, "a", name, value)
			}
		}
	}
}

func TestReport(t *testing.T) {
	const b = "b:pub let j:int=10;pub let wrong:int=true;"
	for _, c := range []struct{ text, want string }{
		{"", ""}, {"use b;use b;use a;", ""},
		{"let x:bool = 1;", "1:5 type\n"}, {"let x:int = ;", "1:13 syntax\n"}, {"use c;", "1:5 unknown\n"},
		{"use two;use none;use gone;use gone;", "1:5 unknown\n1:13 unknown\n1:22 unknown\n1:31 unknown\n"},
		{"let x:int=1;pub let x:bool=1;", "1:5 twice\n1:21 twice\n"},
		{"let x:int=1;let y:int=x;let x:int=2;", "1:5 twice\n1:17 type\n1:29 twice\n"},
		{"let x:int=x;let y:int=x;let z:int=1;", "1:5 cycle\n1:17 cycle\n"},
		{"use b;let x:int=wrong;let y:int=999999999+j;let z:int=x+y;", "1:11 bad\n1:27 over\n1:49 bad\n"},
		{"use b;let j:int=1;", ""}, {"let b:int=1;use b;", ""},
		{"let\n# x\n\tx # y\n:bool=1;", "3:2 type\n"},
		{"let x:bool=1;\nuse c;;", "1:5 type\n2:5 unknown\n2:7 syntax\n"},
		{"use", "1:4 syntax\n"}, {"use b; use c", "1:13 syntax\n"}, {"let x:bool=1", "1:13 syntax\n"}, {"use b;\n\n", ""}, {"use b;\nlet # no", "2:9 syntax\n"},
		{"let x:int=true;\nlet x:int", "1:5 type\n2:10 syntax\n"},
		{"\xff", "1:1 syntax\n"},
	} {
		s := with(t, "a:"+c.text, b)
		wantAsk(t, s, api.Report, "a", c.want)
		wantAsk(t, s, api.Report, "gone", "")
	}
}

// TestFollow: answers are as the present files have it.
func TestFollow(t *testing.T) {
	s := with(t, "a:use b;pub let x:int=y+1;")
	check := func(found string, kind string, value string, report string) {
		t.Helper()
		wantOf(t, s, api.Find, "a", "y", found)
		wantOf(t, s, api.Type, "a", "x", kind)
		wantOf(t, s, api.Value, "a", "x", value)
		wantAsk(t, s, api.Report, "a", report)
	}
	check("none", "bad", "bad", "1:5 unknown\n1:15 type\n")
	wantSet(t, s, "b", "", api.OK)
	check("none", "bad", "bad", "1:15 type\n")
	wantSet(t, s, "b", "pub let y:int=41;", api.OK)
	check("b", "int", "42", "")
	wantSet(t, s, "b", "use a;pub let y:int=x;", api.OK)
	check("b", "int", "cycle", "1:15 cycle\n")
	wantSet(t, s, "b", "pub let y:int=true;", api.OK)
	check("b", "int", "bad", "1:15 bad\n")
	wantRemove(t, s, "b", api.OK)
	check("none", "bad", "bad", "1:5 unknown\n1:15 type\n")
}

// nameOf writes a number as a name of two letters that is no keyword.
func nameOf(i int) string { return string([]byte{'m' + byte(i/26), 'a' + byte(i%26)}) }

// TestManyWays: an answer that can be reached in very many ways is not worked
// out for each of them.
func TestManyWays(t *testing.T) {
	s := New()
	text, count := "", 0
	for i := range api.MaxFiles {
		for {
			item := "pub let " + nameOf(count) + ":int=0"
			if count > 1 {
				item += "*" + nameOf(count-1) + "+" + nameOf(count-2)
			}
			if len(text)+len(item)+1 > api.MaxText {
				break
			}
			text += item + ";"
			count++
		}
		wantSet(t, s, string([]byte{'a' + byte(i)}), text, api.OK)
		text = "use " + string([]byte{'a' + byte(i)}) + ";"
		if i > 0 {
			text += "use " + string([]byte{'a' + byte(i-1)}) + ";"
		}
	}
	if count < 80 {
		t.Fatalf("there are only %d items", count)
	}
	wantOf(t, s, api.Value, "f", nameOf(count-1), "0")
	wantAsk(t, s, api.Report, "f", "")
}

// TestManyCycles: the same of items each of which needs all the others.
func TestManyCycles(t *testing.T) {
	s := New()
	all := "ma"
	for i := 1; i < 14; i++ {
		all += "+" + nameOf(i)
	}
	uses := "use a;use b;use c;use d;use e;use f;"
	for i := range 14 {
		file := string([]byte{'a' + byte(i%6)})
		text := uses
		for j := i % 6; j < 14; j += 6 {
			text += "pub let " + nameOf(j) + ":int=" + all + ";"
		}
		wantSet(t, s, file, text, api.OK)
	}
	for i := range 6 {
		file := string([]byte{'a' + byte(i)})
		wantOf(t, s, api.Value, file, nameOf(i), "cycle")
		if got, _ := s.Ask(api.Report, file, ""); strings.Count(got, " cycle\n") != strings.Count(got, "\n") || got == "" {
			t.Errorf("P4: the report of %s is %q", file, got)
		}
	}
}

// TestDeep asks of the longest chain of items and of the deepest brackets.
func TestDeep(t *testing.T) {
	text := ""
	for i := range 25 {
		text += "let " + nameOf(i) + ":int=" + nameOf(i+1) + ";"
	}
	s := with(t, "a:"+text+"let "+nameOf(25)+":int=7;", "b:"+text+"let "+nameOf(25)+":int=ma;")
	wantOf(t, s, api.Value, "a", "ma", "7")
	wantOf(t, s, api.Value, "b", "ma", "cycle")
	deep := strings.Repeat("(1+", api.MaxNest) + "1" + strings.Repeat(")", api.MaxNest)
	wantSet(t, s, "a", "let x:int="+deep+";", api.OK)
	wantOf(t, s, api.Value, "a", "x", strconv.Itoa(api.MaxNest+1))
	wantSet(t, s, "a", "let x:int=(1+"+deep+");", api.OK)
	wantOf(t, s, api.Value, "a", "x", "none")
}
