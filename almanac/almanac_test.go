package almanac

import (
	"math"
	"math/rand"
	"slices"
	"strconv"
	"strings"
	"testing"

	"almanac/api"
)

func wantSet(t *testing.T, s *Session, file string, text string, want api.Errno) {
	t.Helper()
	if got := s.Set(file, text); got != want {
		t.Errorf("P3: Set(%.20q, %.40q) = %d, want %d", file, text, got, want)
	}
}

func wantRemove(t *testing.T, s *Session, file string, want api.Errno) {
	t.Helper()
	if got := s.Remove(file); got != want {
		t.Errorf("P3: Remove(%.20q) = %d, want %d", file, got, want)
	}
}

func wantAsk(t *testing.T, s *Session, kind int, file string, want string) {
	t.Helper()
	wantOf(t, s, kind, file, "?", want)
}

func wantOf(t *testing.T, s *Session, kind int, file string, name string, want string) {
	t.Helper()
	if got, errno := s.Ask(kind, file, name); got != want || errno != api.OK {
		t.Errorf("P4: Ask(%d, %q, %q) = %q, %d, want %q", kind, file, name, got, errno, want)
	}
}

func wantErrno(t *testing.T, s *Session, kind int, file string, name string, want api.Errno) {
	t.Helper()
	if got, errno := s.Ask(kind, file, name); got != "" || errno != want {
		t.Errorf("P4: Ask(%d, %.20q, %.20q) = %q, %d, want the error %d", kind, file, name, got, errno, want)
	}
}

func wantState(t *testing.T, s *Session, revision int, files int) {
	t.Helper()
	if got := s.Look(); got.Revision != revision || got.Files != files {
		t.Errorf("P3: the revision is %d with %d files, want %d with %d", got.Revision, got.Files, revision, files)
	}
}

func noFiles() []string {
	return []string{"", "A", "a1", "a ", "ninelette", "é", "\x00", "use", "pub", "let", "int", "bool", "true", "false", "if", "then", "else", "end", "none", "two", strings.Repeat("a", 1<<20)}
}

// spent is a session with one file, a, that has been changed as often as may be.
func spent() *Session {
	s := New()
	for i := range api.MaxRevision {
		s.Set("a", strconv.Itoa(i))
	}
	return s
}

func TestNew(t *testing.T) {
	s := New()
	wantState(t, s, 0, 0)
	if got := s.Look().Kept; got != 0 {
		t.Errorf("P3: a new session keeps %d values", got)
	}
	if got := s.Ran(); len(got) != 0 {
		t.Errorf("P3: a new session ran %q", got)
	}
	wantAsk(t, s, api.Known, "a", "no")
}

func TestSetNames(t *testing.T) {
	s := New()
	for _, file := range noFiles() {
		wantSet(t, s, file, "", api.ErrName)
		wantSet(t, s, file, strings.Repeat(" ", 401), api.ErrName)
	}
	wantState(t, s, 0, 0)
	for _, file := range []string{"a", "eightlet", "twos", "nones", "uses"} {
		wantSet(t, s, file, "", api.OK)
	}
	wantState(t, s, 5, 5)
}

func TestSetLength(t *testing.T) {
	s := New()
	wantSet(t, s, "a", strings.Repeat("\xff", 400), api.OK)
	wantSet(t, s, "a", strings.Repeat("\xff", 401), api.ErrLong)
	wantSet(t, s, "b", strings.Repeat(" ", 1<<20), api.ErrLong)
	wantState(t, s, 1, 1)
	wantAsk(t, s, api.Known, "b", "no")
}

func TestSetFiles(t *testing.T) {
	s := New()
	for _, file := range []string{"a", "b", "c", "d", "e", "f"} {
		wantSet(t, s, file, "", api.OK)
	}
	wantSet(t, s, "g", "", api.ErrFiles)
	wantSet(t, s, "g", strings.Repeat(" ", 401), api.ErrLong)
	wantState(t, s, 6, 6)
	wantSet(t, s, "f", "use a;", api.OK)
	wantRemove(t, s, "b", api.OK)
	wantSet(t, s, "g", "", api.OK)
	wantSet(t, s, "b", "", api.ErrFiles)
	wantState(t, s, 9, 6)
}

func TestSetSame(t *testing.T) {
	s := New()
	wantSet(t, s, "a", "", api.OK)
	wantState(t, s, 1, 1)
	wantSet(t, s, "a", "", api.OK)
	wantState(t, s, 1, 1)
	wantSet(t, s, "a", " ", api.OK)
	wantState(t, s, 2, 1)
	wantSet(t, s, "b", " ", api.OK)
	wantState(t, s, 3, 2)
}

func TestRemove(t *testing.T) {
	s := New()
	for _, file := range noFiles() {
		wantRemove(t, s, file, api.ErrName)
	}
	wantRemove(t, s, "a", api.ErrNone)
	wantState(t, s, 0, 0)
	wantSet(t, s, "a", "use b;", api.OK)
	wantRemove(t, s, "b", api.ErrNone)
	wantRemove(t, s, "a", api.OK)
	wantState(t, s, 2, 0)
	wantRemove(t, s, "a", api.ErrNone)
	wantAsk(t, s, api.Known, "a", "no")
	wantAsk(t, s, api.Tokens, "a", "@1:1")
	wantAsk(t, s, api.Tree, "a", "")
	wantSet(t, s, "a", "use b;", api.OK)
	wantState(t, s, 3, 1)
	wantAsk(t, s, api.Tree, "a", "1:use b\n")
}

func TestRevisions(t *testing.T) {
	s := spent()
	wantState(t, s, 1000, 1)
	wantSet(t, s, "a", "999", api.OK)
	wantSet(t, s, "a", "0", api.ErrRevisions)
	wantSet(t, s, "b", "", api.ErrRevisions)
	wantSet(t, s, "a", strings.Repeat(" ", 401), api.ErrLong)
	wantSet(t, s, "two", "", api.ErrName)
	wantRemove(t, s, "a", api.ErrRevisions)
	wantRemove(t, s, "b", api.ErrNone)
	wantRemove(t, s, "two", api.ErrName)
	wantState(t, s, 1000, 1)
	wantAsk(t, s, api.Tokens, "a", "999@1:1 @1:4")
	wantAsk(t, s, api.Known, "b", "no")
}

func TestRevisionsBehindFiles(t *testing.T) {
	s := New()
	for _, file := range []string{"b", "c", "d", "e", "f"} {
		wantSet(t, s, file, "", api.OK)
	}
	for i := range api.MaxRevision - 5 {
		wantSet(t, s, "a", strconv.Itoa(i), api.OK)
	}
	wantSet(t, s, "g", "", api.ErrFiles)
	wantSet(t, s, "b", " ", api.ErrRevisions)
}

func TestAskErrors(t *testing.T) {
	s := New()
	s.Set("a", "pub let x:int=1;")
	for _, kind := range []int{0, 9, -1, 10, 256 + 1, 1<<16 + 1, math.MaxInt, math.MinInt} {
		wantErrno(t, s, kind, "a", "x", api.ErrKind)
		wantErrno(t, s, kind, "", "", api.ErrKind)
	}
	for kind := api.Known; kind <= api.Report; kind++ {
		for _, file := range noFiles() {
			wantErrno(t, s, kind, file, "x", api.ErrName)
		}
	}
	for kind := api.Find; kind <= api.Value; kind++ {
		for _, name := range []string{"", "A", "use", "ninelette", "x ", strings.Repeat("a", 1<<20)} {
			wantErrno(t, s, kind, "a", name, api.ErrName)
		}
		for _, name := range []string{"x", "none", "two", "eightlet"} {
			if _, errno := s.Ask(kind, "a", name); errno != api.OK {
				t.Errorf("P4: Ask(%d, a, %s): %d", kind, name, errno)
			}
		}
	}
	for _, kind := range []int{api.Known, api.Tokens, api.Tree, api.Exports, api.Report} {
		for _, name := range []string{"", "A", "use", "ninelette"} {
			if _, errno := s.Ask(kind, "a", name); errno != api.OK {
				t.Errorf("P4: Ask(%d, a, %q): %d", kind, name, errno)
			}
		}
	}
	wantState(t, s, 1, 1)
}

func TestAnswers(t *testing.T) {
	s := New()
	for _, c := range []struct{ text, tokens, tree, exports string }{
		{"pub let x:int = 1 + y; let y:int = 2;", "pub@1:1 let@1:5 x@1:9 :@1:10 int@1:11 =@1:15 1@1:17 +@1:19 y@1:21 ;@1:22 let@1:24 y@1:28 :@1:29 int@1:30 =@1:34 2@1:36 ;@1:37 @1:38",
			"2:pub x:int=(1+y)\n11:let y:int=2\n", "x"},
		{"use b; # c\n!", "use@1:1 b@1:5 ;@1:6 !@2:1 @2:2", "1:use b\n!3", ""},
		{"", "@1:1", "", ""},
		{"pub let b:int=1;pub let a:int=1;pub let", "pub@1:1 let@1:5 b@1:9 :@1:10 int@1:11 =@1:14 1@1:15 ;@1:16 pub@1:17 let@1:21 a@1:25 :@1:26 int@1:27 =@1:30 1@1:31 ;@1:32 pub@1:33 let@1:37 @1:40",
			"2:pub b:int=1\n10:pub a:int=1\n!18", "a b"},
	} {
		wantSet(t, s, "a", c.text, api.OK)
		for range 2 {
			wantAsk(t, s, api.Known, "a", "yes")
			wantAsk(t, s, api.Tokens, "a", c.tokens)
			wantAsk(t, s, api.Tree, "a", c.tree)
			wantAsk(t, s, api.Exports, "a", c.exports)
			wantAsk(t, s, api.Known, "b", "no")
			wantAsk(t, s, api.Tokens, "b", "@1:1")
			wantAsk(t, s, api.Tree, "b", "")
			wantAsk(t, s, api.Exports, "b", "")
		}
	}
}

// TestLongest asks of texts of the greatest length that are one thing all through.
func TestLongest(t *testing.T) {
	s := New()
	for _, part := range []string{"a", "1", "=", "(", "\n", "#", "\xff", "use b;", "if ", "let x:int=1+", "let x:int=("} {
		text := strings.Repeat(part, api.MaxText)[:api.MaxText]
		wantSet(t, s, "a", text, api.OK)
		for kind := api.Known; kind <= api.Report; kind++ {
			if _, errno := s.Ask(kind, "a", "x"); errno != api.OK {
				t.Errorf("P1: Ask(%d) of %.20q..: %d", kind, text, errno)
			}
		}
	}
}

// TestNoSession: a session that New did not make is none the worse for it.
func TestNoSession(t *testing.T) {
	var none *Session
	wantSet(t, none, "two", "", api.ErrName)
	wantSet(t, none, "a", "", api.ErrFiles)
	wantRemove(t, none, "a", api.ErrNone)
	wantAsk(t, none, api.Known, "a", "no")
	wantAsk(t, none, api.Tokens, "a", "@1:1")
	wantOf(t, none, api.Find, "a", "x", "none")
	wantOf(t, none, api.Type, "a", "x", "none")
	wantOf(t, none, api.Value, "a", "x", "none")
	wantAsk(t, none, api.Report, "a", "")
	wantState(t, none, 0, 0)
	if got := none.Ran(); len(got) != 0 {
		t.Errorf("P1: no session ran %q", got)
	}
	empty := &Session{}
	wantState(t, empty, 0, 0)
	wantRan(t, empty, "3 a", "", "3 a, 2 a")
	wantRemove(t, empty, "a", api.ErrNone)
	wantSet(t, empty, "a", "", api.OK)
	wantAsk(t, empty, api.Known, "a", "yes")
}

// play does one random thing and answers what came of it; bad files, names and kinds among them.
func play(s *Session, random *rand.Rand) string {
	files := []string{"a", "b", "c", "d", "e", "f", "g", "two", "A", ""}
	texts := []string{"", "use b;", "pub let x:int=1;", "let x:bool=x;pub let y:int=if", "\xff", strings.Repeat(" ", 401)}
	file := files[random.Intn(len(files))]
	switch random.Intn(4) {
	case 0:
		return "set " + strconv.Itoa(int(s.Set(file, texts[random.Intn(len(texts))])))
	case 1:
		return "remove " + strconv.Itoa(int(s.Remove(file)))
	}
	answer, errno := s.Ask(random.Intn(10), file, []string{"x", "Y"}[random.Intn(2)])
	return "ask " + answer + " " + strconv.Itoa(int(errno))
}

// TestErrorsChangeNothing: behind an error the session stands as it stood.
func TestErrorsChangeNothing(t *testing.T) {
	stand := func(s *Session) string {
		out := strconv.Itoa(s.Look().Revision) + " " + strconv.Itoa(s.Look().Files)
		for _, file := range []string{"a", "b", "c", "d", "e", "f", "g"} {
			known, _ := s.Ask(api.Known, file, "")
			tokens, _ := s.Ask(api.Tokens, file, "")
			out += "\n" + known + " " + tokens
		}
		return out
	}
	random := rand.New(rand.NewSource(3))
	s := New()
	for range 3000 {
		before := stand(s)
		did := play(s, random)
		failed := !strings.HasSuffix(did, " 0")
		if ran := s.Ran(); failed && len(ran) != 0 {
			t.Fatalf("P1: %q ran %q", did, ran)
		}
		if failed && strings.HasPrefix(did, "ask ") && len(did) != len("ask  0") {
			t.Fatalf("P1: an answer with an error: %q", did)
		}
		if after := stand(s); (failed || strings.HasPrefix(did, "ask ")) && after != before {
			t.Fatalf("P1: %q changed %q to %q", did, before, after)
		}
	}
}

// TestSessionsApart: the same done with two sessions by turns, and one of them
// written into wherever it can be, comes to the same.
func TestSessionsApart(t *testing.T) {
	one, other := New(), New()
	randomOne, randomOther := rand.New(rand.NewSource(4)), rand.New(rand.NewSource(4))
	for range 3000 {
		didOne, didOther := play(one, randomOne), play(other, randomOther)
		if didOne != didOther {
			t.Fatalf("P2: %q and %q", didOne, didOther)
		}
		spoiled := one.Ran()
		spoiled = spoiled[:cap(spoiled)]
		for i := range spoiled {
			spoiled[i] = "spoiled"
		}
		if ranOne, ranOther := one.Ran(), other.Ran(); !slices.Equal(ranOne, ranOther) {
			t.Fatalf("P2: Ran: %q and %q", ranOne, ranOther)
		}
		if one.Look() != other.Look() {
			t.Fatalf("P2: Look: %v and %v", one.Look(), other.Look())
		}
	}
	wantSet(t, New(), "a", "", api.OK)
}
