package almanac

import (
	"math/rand"
	"slices"
	"strconv"
	"strings"
	"testing"

	"almanac/api"
)

// wantRan asks, and what was worked out must be just that, told with commas between.
func wantRan(t *testing.T, s *Session, asked string, want string, ran string) {
	t.Helper()
	parts := append(strings.Fields(asked), "")
	kind, _ := strconv.Atoi(parts[0])
	if got, errno := s.Ask(kind, parts[1], parts[2]); got != want || errno != api.OK {
		t.Errorf("P4: %s is %q, %d, want %q", asked, got, errno, want)
	}
	if got := strings.Join(s.Ran(), ", "); got != ran {
		t.Errorf("P5: %s worked out %q, want %q", asked, got, ran)
	}
}

func wantKept(t *testing.T, s *Session, want int) {
	t.Helper()
	if got := s.Look().Kept; got != want {
		t.Errorf("P5: %d values are kept, want %d", got, want)
	}
}

// TestRanExamples are those of the document.
func TestRanExamples(t *testing.T) {
	const text = "pub let x:int = 1 + y; let y:int = 2;"
	s := with(t, "a:"+text)
	wantRan(t, s, "7 a x", "3", "7 a x, 6 a x, 3 a, 2 a, 5 a y, 7 a y, 6 a y")
	wantRan(t, s, "3 a", "2:pub x:int=(1+y)\n11:let y:int=2\n", "")
	wantSet(t, s, "a", " "+text, api.OK)
	wantRan(t, s, "7 a x", "3", "2 a, 3 a")
	wantRan(t, s, "7 a x", "3", "")
	wantKept(t, s, 7)
	s = with(t, "a:let p:int = q; let q:int = p;")
	wantRan(t, s, "7 a p", "cycle", "7 a p, 6 a p, 3 a, 2 a, 5 a q, 7 a q, 6 a q, 5 a p")
	wantKept(t, s, 7)
}

// TestRanKinds: each kind, of what it is worked out, and how it is told.
func TestRanKinds(t *testing.T) {
	const text = "use b;use c;use b;pub let x:int=y+z+y;let w:int=1;let w:int=2;"
	for _, c := range []struct{ asked, want, ran string }{
		{"1 a", "yes", "1 a"},
		{"1 gone", "no", "1 gone"},
		{"2 gone", "@1:1", "2 gone"},
		{"3 gone", "", "3 gone, 2 gone"},
		{"4 gone", "", "4 gone, 3 gone, 2 gone"},
		{"4 a", "x", "4 a, 3 a, 2 a"},
		{"5 a x", "a", "5 a x, 3 a, 2 a"},
		{"5 a w", "two", "5 a w, 3 a, 2 a"},
		// each file that is used once, all of them, in the order of the items
		{"5 a y", "two", "5 a y, 3 a, 2 a, 4 b, 3 b, 2 b, 4 c, 3 c, 2 c"},
		{"5 a u", "none", "5 a u, 3 a, 2 a, 4 b, 3 b, 2 b, 4 c, 3 c, 2 c"},
		// each name once, also behind one that has no type
		{"6 a x", "bad", "6 a x, 3 a, 2 a, 5 a y, 4 b, 3 b, 2 b, 4 c, 3 c, 2 c, 5 a z"},
		{"6 a w", "none", "6 a w, 3 a, 2 a"},
		{"6 a u", "none", "6 a u, 3 a, 2 a"},
		// of what is bad nothing is needed
		{"7 a x", "bad", "7 a x, 6 a x, 3 a, 2 a, 5 a y, 4 b, 3 b, 2 b, 4 c, 3 c, 2 c, 5 a z"},
		{"7 a w", "none", "7 a w, 6 a w, 3 a, 2 a"},
		{"7 b y", "1", "7 b y, 6 b y, 3 b, 2 b"},
		{"8 gone", "", "8 gone, 2 gone, 3 gone"},
		{"8 a", "1:27 type\n1:43 twice\n1:55 twice\n", "8 a, 2 a, 3 a, 1 b, 1 c, 6 a x, 5 a y, 4 b, 3 b, 2 b, 4 c, 3 c, 2 c, 5 a z"},
		{"8 c", "", "8 c, 2 c, 3 c, 6 c y, 7 c y"},
	} {
		s := with(t, "a:"+text, "b:pub let y:int=1;pub let z:int=2;", "c:pub let y:int=3;")
		wantRan(t, s, c.asked, c.want, c.ran)
		wantKept(t, s, strings.Count(c.ran, ",")+1)
		wantRan(t, s, c.asked, c.want, "")
	}
}

// TestRanTrees: a type looks at the tree of the file that a name comes from, and
// a value needs the values of all names, also behind one that is at fault.
func TestRanTrees(t *testing.T) {
	s := with(t, "a:use b;let x:int=y+y+z;", "b:pub let y:int=true;pub let z:int=1;pub let u:int=1;")
	wantRan(t, s, "6 a x", "int", "6 a x, 3 a, 2 a, 5 a y, 4 b, 3 b, 2 b, 5 a z")
	wantRan(t, s, "7 a x", "bad", "7 a x, 7 b y, 6 b y, 7 b z, 6 b z")
	// the exports stay, the tree does not
	wantSet(t, s, "b", "pub let y:int=true;pub let z:int=2;pub let u:int=1;", api.OK)
	wantRan(t, s, "5 a y", "b", "2 b, 3 b, 4 b")
	wantRan(t, s, "6 a x", "int", "6 a x")
	// a private item is nothing to others
	wantSet(t, s, "b", "pub let y:int=1;pub let z:int=2;let u:int=1;", api.OK)
	wantRan(t, s, "5 a y", "b", "2 b, 3 b, 4 b, 5 a y")
	wantRan(t, s, "7 a x", "4", "6 a x, 5 a z, 6 b y, 7 b y, 7 a x, 6 b z, 7 b z")
}

// TestRanFiles: a file has changed when it was set or removed, not when it was
// set to what it has, and not when that was refused.
func TestRanFiles(t *testing.T) {
	s := with(t, "a:1", "b:2")
	wantRan(t, s, "1 a", "yes", "1 a")
	wantRan(t, s, "1 c", "no", "1 c")
	wantSet(t, s, "a", "1", api.OK)
	wantSet(t, s, "a", strings.Repeat("1", 401), api.ErrLong)
	wantSet(t, s, "b", "3", api.OK)
	wantRemove(t, s, "c", api.ErrNone)
	wantRan(t, s, "1 a", "yes", "")
	wantRan(t, s, "1 c", "no", "")
	wantSet(t, s, "a", "2", api.OK)
	wantRan(t, s, "1 a", "yes", "1 a")
	wantRemove(t, s, "a", api.OK)
	wantSet(t, s, "c", "", api.OK)
	wantRan(t, s, "1 a", "no", "1 a")
	wantRan(t, s, "1 c", "yes", "1 c")
	wantRan(t, s, "2 a", "@1:1", "2 a")
	// gone and back between two questions
	wantSet(t, s, "a", "", api.OK)
	wantRemove(t, s, "a", api.OK)
	wantRan(t, s, "3 a", "", "3 a, 2 a")
	wantRan(t, s, "1 a", "no", "1 a")
	wantRan(t, s, "2 a", "@1:1", "")
	wantRan(t, s, "1 b", "yes", "1 b")
}

// TestRanAtLast: nothing but the last call counts, and of it nothing is left behind an error.
func TestRanAtLast(t *testing.T) {
	s := New()
	fill := func() {
		t.Helper()
		wantSet(t, s, "a", strconv.Itoa(s.Look().Revision), api.OK)
		s.Ask(api.Tree, "a", "")
		if got := s.Ran(); len(got) != 2 {
			t.Errorf("P5: the tree worked out %q", got)
		}
	}
	empty := func(what string) {
		t.Helper()
		if got := s.Ran(); len(got) != 0 {
			t.Errorf("P5: behind %s ran %q", what, got)
		}
	}
	fill()
	s.Look()
	if got := s.Ran(); !slices.Equal(got, []string{"2 a", "3 a"}) && !slices.Equal(got, []string{"3 a", "2 a"}) {
		t.Errorf("P5: behind Look ran %q", got)
	}
	wantSet(t, s, "b", "", api.OK)
	empty("Set")
	fill()
	wantSet(t, s, "b", "", api.OK)
	empty("Set to the same")
	fill()
	wantSet(t, s, "none", "", api.ErrName)
	empty("Set of no name")
	fill()
	wantRemove(t, s, "c", api.ErrNone)
	empty("Remove of no file")
	fill()
	wantRemove(t, s, "b", api.OK)
	empty("Remove")
	fill()
	wantErrno(t, s, 9, "a", "", api.ErrKind)
	empty("Ask of no kind")
	fill()
	wantErrno(t, s, api.Find, "a", "A", api.ErrName)
	empty("Ask of no name")
}

// TestRanLists: each is new memory, its spare room too.
func TestRanLists(t *testing.T) {
	s := with(t, "a:let x:int=y;let y:int=1;")
	wantRan(t, s, "6 a x", "int", "6 a x, 3 a, 2 a, 5 a y")
	first, second := s.Ran(), s.Ran()
	first = first[:cap(first)]
	for i := range first {
		first[i] = "spoiled"
	}
	if !slices.Equal(second, []string{"6 a x", "3 a", "2 a", "5 a y"}) {
		t.Errorf("P2: a list that came out before is %q", second)
	}
	if third := s.Ran(); !slices.Equal(third, second) {
		t.Errorf("P2: behind a list that was written into Ran is %q", third)
	}
	wantRan(t, s, "7 a x", "1", "7 a x, 7 a y, 6 a y")
	if second[0] != "6 a x" || first[0] != "spoiled" {
		t.Errorf("P2: lists that came out before are %q, %q", first, second)
	}
}

// TestRanBlanks: behind a change of blanks and comments alone only that runs
// which tells of places (P6).
func TestRanBlanks(t *testing.T) {
	const b = "use a;pub let y:int=2;let z:bool=y==2;let w:bool=y;"
	s := with(t, "a:use b;pub let x:int=y+1;", "b:"+b)
	questions := []string{"1 b", "2 b", "3 b", "4 b", "5 b y", "6 b y", "7 b y", "5 b x", "7 b z", "7 b w", "8 b", "7 a x", "8 a"}
	ask := func() []string {
		var ran []string
		for _, asked := range questions {
			parts := append(strings.Fields(asked), "")
			kind, _ := strconv.Atoi(parts[0])
			s.Ask(kind, parts[1], parts[2])
			ran = append(ran, s.Ran()...)
		}
		slices.Sort(ran)
		return ran
	}
	first := ask()
	if len(slices.Compact(slices.Clone(first))) != len(first) || s.Look().Kept != len(first) {
		t.Errorf("P6: in one revision ran %q", first)
	}
	for _, text := range []string{b + " ", "# here\n" + b, strings.ReplaceAll(b, ";", " ;#\n\t"), b} {
		wantSet(t, s, "b", text, api.OK)
		if got := ask(); !slices.Equal(got, []string{"1 b", "2 b", "3 b", "8 b"}) {
			t.Errorf("P6: behind a change of blanks ran %q", got)
		}
		if got := ask(); len(got) != 0 {
			t.Errorf("P6: asked again ran %q", got)
		}
	}
}

// TestRanCycles: a cycle is worked out anew in each revision, and one of its items
// is found to be in it without being worked out.
func TestRanCycles(t *testing.T) {
	s := with(t, "a:let p:int=q;let q:int=r;let r:int=p;let o:int=q;")
	wantRan(t, s, "7 a o", "cycle", "7 a o, 6 a o, 3 a, 2 a, 5 a q, 7 a q, 6 a q, 5 a r, 7 a r, 6 a r, 5 a p, 7 a p, 6 a p")
	// what was given up has no memo, and is asked of q, which has
	wantRan(t, s, "7 a r", "cycle", "7 a r, 7 a p")
	wantRan(t, s, "7 a p", "cycle", "")
	wantSet(t, s, "b", "", api.OK)
	wantRan(t, s, "7 a p", "cycle", "7 a q")
	wantRan(t, s, "7 a r", "cycle", "")
	wantRan(t, s, "7 a q", "cycle", "7 a q")
	wantRan(t, s, "7 a o", "cycle", "")
	wantSet(t, s, "a", "let p:int=q;let q:int=r;let r:int=7;let o:int=q;", api.OK)
	wantRan(t, s, "7 a o", "7", "2 a, 3 a, 6 a o, 5 a q, 7 a o, 6 a q, 5 a r, 7 a q, 6 a r, 7 a r")
	wantRan(t, s, "7 a p", "7", "7 a p, 6 a p")
	wantSet(t, s, "b", " ", api.OK)
	wantRan(t, s, "7 a p", "7", "")
}

// TestKept: behind a question no more than 40 values are kept, and those are
// dropped that were used longest ago.
func TestKept(t *testing.T) {
	s := with(t, "a:let x:int=1;")
	wantRan(t, s, "7 a x", "1", "7 a x, 6 a x, 3 a, 2 a")
	for i := range 36 {
		wantRan(t, s, "1 "+nameOf(i), "no", "1 "+nameOf(i))
		wantKept(t, s, 5+i)
	}
	// the tokens were used first of all, then the type, then the tree, by the value
	wantRan(t, s, "1 last", "no", "1 last")
	wantKept(t, s, 40)
	wantRan(t, s, "7 a x", "1", "")
	wantRan(t, s, "6 a x", "int", "")
	wantRan(t, s, "2 a", "let@1:1 x@1:5 :@1:6 int@1:7 =@1:10 1@1:11 ;@1:12 @1:13", "2 a")
	wantRan(t, s, "7 a x", "1", "")
	wantRan(t, s, "3 a", "1:let x:int=1\n", "3 a")
	wantKept(t, s, 40)
	// now the one that was asked first is gone
	wantRan(t, s, "1 "+nameOf(1), "no", "")
	wantRan(t, s, "1 "+nameOf(0), "no", "1 "+nameOf(0))
	wantRan(t, s, "1 "+nameOf(1), "no", "")
	wantRan(t, s, "1 "+nameOf(2), "no", "1 "+nameOf(2))
}

// TestKeptOnce: what a slot looks at more than once it uses when it looks first.
func TestKeptOnce(t *testing.T) {
	s := with(t, "a:let x:int=y;let y:int=1;")
	wantRan(t, s, "6 a x", "int", "6 a x, 3 a, 2 a, 5 a y")
	for i := range 38 {
		wantRan(t, s, "1 "+nameOf(i), "no", "1 "+nameOf(i))
	}
	// the tree was used ahead of what the name means, not behind it
	wantRan(t, s, "5 a y", "a", "")
	wantRan(t, s, "3 a", "1:let x:int=y\n8:let y:int=1\n", "3 a, 2 a")
	s = with(t, "a:use b;use c;use b;")
	wantRan(t, s, "8 a", "1:5 unknown\n1:11 unknown\n1:17 unknown\n", "8 a, 2 a, 3 a, 1 b, 1 c")
	for i := range 38 {
		wantRan(t, s, "1 "+nameOf(i), "no", "1 "+nameOf(i))
	}
	wantRan(t, s, "1 c", "no", "")
	wantRan(t, s, "1 b", "no", "1 b")
}

// TestKeptAsLong: while a question is asked nothing is dropped, behind it all that is too much.
func TestKeptAsLong(t *testing.T) {
	text := ""
	for i := range 25 {
		text += "let " + nameOf(i) + ":int=" + nameOf(i+1) + ";"
	}
	s := with(t, "a:"+text+"let "+nameOf(25)+":int=7;")
	wantOf(t, s, api.Value, "a", nameOf(0), "7")
	ran := s.Ran()
	if slices.Sort(ran); len(ran) != 2+26+26+25 || len(slices.Compact(ran)) != 79 {
		t.Errorf("P6: ran %q, want each once", ran)
	}
	wantKept(t, s, 40)
	// each value was worked out behind all the types and the files of what it needs
	for i := range 26 {
		wantRan(t, s, "7 a "+nameOf(i), "7", "")
	}
	for i := 19; i < 25; i++ {
		wantRan(t, s, "6 a "+nameOf(i), "int", "")
		wantRan(t, s, "5 a "+nameOf(i+1), "a", "")
	}
	wantRan(t, s, "5 a "+nameOf(19), "a", "5 a "+nameOf(19))
	wantKept(t, s, 40)
	// what was dropped is known not to have changed
	wantSet(t, s, "b", "", api.OK)
	wantRan(t, s, "7 a "+nameOf(0), "7", "")
	wantRan(t, s, "6 a "+nameOf(3), "int", "6 a "+nameOf(3)+", 5 a "+nameOf(4))
}

// TestErrorsKeep: behind an error no value is dropped and none is used.
func TestErrorsKeep(t *testing.T) {
	s := New()
	for i := range 40 {
		wantRan(t, s, "1 "+nameOf(i), "no", "1 "+nameOf(i))
	}
	before := s.Look()
	wantErrno(t, s, 0, nameOf(0), "", api.ErrKind)
	wantErrno(t, s, api.Known, "none", "", api.ErrName)
	wantErrno(t, s, api.Find, nameOf(0), "", api.ErrName)
	wantSet(t, s, nameOf(0), strings.Repeat(" ", 401), api.ErrLong)
	wantRemove(t, s, nameOf(0), api.ErrNone)
	if after := s.Look(); after != before {
		t.Errorf("P1: behind errors the state is %v, want %v", after, before)
	}
	wantRan(t, s, "1 new", "no", "1 new")
	wantRan(t, s, "1 "+nameOf(1), "no", "")
	wantRan(t, s, "1 "+nameOf(0), "no", "1 "+nameOf(0))
}

// soup is a text of pieces of the language, with most of which items can be made.
func soup(random *rand.Rand) string {
	pieces := []string{"use a;", "use b;", "use c;", "let x:int=", "pub let y:int=", "pub let z:bool=", "x", "y+", "z", "1", "(", ")", "*", "==", "if ", " then ", " else ", " end", ";", ";", ";", " ", "#\n", "#", "=", "\xff", "let "}
	text := ""
	for range random.Intn(30) {
		text += pieces[random.Intn(len(pieces))]
	}
	return text
}

// TestFresh: whatever was done with a session, it answers as a new one with the same files.
func TestFresh(t *testing.T) {
	random := rand.New(rand.NewSource(8))
	s := New()
	texts := map[string]string{}
	for range api.MaxRevision {
		file := []string{"a", "b", "c"}[random.Intn(3)]
		if random.Intn(9) == 0 {
			s.Remove(file)
			delete(texts, file)
		} else {
			texts[file] = soup(random)
			wantSet(t, s, file, texts[file], api.OK)
		}
		fresh := New()
		for file, text := range texts {
			wantSet(t, fresh, file, text, api.OK)
		}
		for range random.Intn(12) {
			kind, file, name := 1+random.Intn(8), []string{"a", "b", "c"}[random.Intn(3)], []string{"x", "y", "z"}[random.Intn(3)]
			want, _ := fresh.Ask(kind, file, name)
			wantOf(t, s, kind, file, name, want)
			if kept := s.Look().Kept; kept > api.MaxValues {
				t.Fatalf("P6: %d values are kept", kept)
			}
		}
	}
}
