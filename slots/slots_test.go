package slots

import (
	"math/rand"
	"slices"
	"strconv"
	"strings"
	"testing"
)

// graph works texts out of one another: each is its name and, in brackets, what
// it needs. What begins with a capital is a source; a name that ends with `s`
// says no more than how many it needs.
type graph struct {
	table   Table
	needs   map[string]string
	sources map[string]string
}

func (g *graph) fetch(looks *Looks, name string) string {
	rule := Rule[string]{Work: g.work, Same: func(one string, other string) bool { return one == other }, Looped: "loop"}
	return Fetch(looks, Key{Kind: 1, Name: name}, rule)
}

func (g *graph) work(looks *Looks, key Key) string {
	var parts []string
	for _, need := range strings.Fields(g.needs[key.Name]) {
		if need < "a" {
			looks.Source(need)
			parts = append(parts, need+g.sources[need])
		} else {
			parts = append(parts, g.fetch(looks, need))
		}
	}
	if strings.HasSuffix(key.Name, "s") {
		return key.Name + strconv.Itoa(len(parts))
	}
	return key.Name + "(" + strings.Join(parts, " ") + ")"
}

func (g *graph) change(source string, to string) {
	g.sources[source] = to
	g.table.Change(source)
}

// check fetches a slot, which must have that value and make just these begin.
func (g *graph) check(t *testing.T, name string, want string, began string) {
	t.Helper()
	g.table.Begin()
	if got := g.fetch(g.table.Looks(), name); got != want {
		t.Errorf("P4: %s = %q, want %q", name, got, want)
	}
	var names []string
	for _, key := range g.table.Began() {
		names = append(names, key.Name)
	}
	if !slices.Equal(names, strings.Fields(began)) {
		t.Errorf("P5: %s began %q, want %q", name, names, began)
	}
	for key, s := range g.table.slots {
		if s.common().active || s.common().looped {
			t.Errorf("P5: %s is active behind %s", key.Name, name)
		}
	}
}

func newGraph(needs map[string]string) *graph {
	return &graph{needs: needs, sources: map[string]string{}}
}

func TestOnce(t *testing.T) {
	g := newGraph(map[string]string{"a": "b c", "b": "d", "c": "d b"})
	g.check(t, "a", "a(b(d()) c(d() b(d())))", "a b d c")
	g.check(t, "a", "a(b(d()) c(d() b(d())))", "")
	g.check(t, "d", "d()", "")
	g.check(t, "e", "e()", "e")
}

// TestVerified: what has changed nothing that was looked at makes nothing begin.
func TestVerified(t *testing.T) {
	g := newGraph(map[string]string{"a": "b c", "b": "S", "c": "T"})
	g.check(t, "a", "a(b(S) c(T))", "a b c")
	g.change("U", "1")
	g.check(t, "a", "a(b(S) c(T))", "")
	g.change("T", "1")
	g.check(t, "b", "b(S)", "")
	g.check(t, "a", "a(b(S) c(T1))", "c a")
	g.change("S", "1")
	g.change("T", "2")
	g.check(t, "c", "c(T2)", "c")
	// as soon as one has changed it is worked out, the others on the way
	g.change("T", "3")
	g.check(t, "a", "a(b(S1) c(T3))", "b a c")
	g.check(t, "a", "a(b(S1) c(T3))", "")
	if got := g.table.Revision(); got != 5 {
		t.Errorf("P5: the revision is %d, want 5", got)
	}
}

// TestSame: a slot that is worked out to the same has not changed.
func TestSame(t *testing.T) {
	g := newGraph(map[string]string{"a": "bs c", "bs": "S", "c": "bs"})
	g.check(t, "a", "a(bs1 c(bs1))", "a bs c")
	g.change("S", "1")
	g.check(t, "a", "a(bs1 c(bs1))", "bs")
	g.change("S", "2")
	g.needs["bs"] = "S S"
	g.check(t, "c", "c(bs2)", "bs c")
	g.check(t, "a", "a(bs2 c(bs2))", "a")
	// it has changed since, though not in this revision
	g.change("S", "3")
	g.needs["bs"] = "S"
	g.check(t, "bs", "bs1", "bs")
	g.change("U", "1")
	g.check(t, "a", "a(bs1 c(bs1))", "a c")
}

// TestOtherLooks: the last time counts when a slot looks at other things than it did.
func TestOtherLooks(t *testing.T) {
	g := newGraph(map[string]string{"a": "S b", "b": "T", "c": "U"})
	g.check(t, "a", "a(S b(T))", "a b")
	g.needs["a"] = "S c"
	g.change("S", "1")
	g.check(t, "a", "a(S1 c(U))", "a c")
	g.change("T", "1")
	g.check(t, "a", "a(S1 c(U))", "")
	g.change("U", "1")
	g.check(t, "a", "a(S1 c(U1))", "c a")
}

func TestLoop(t *testing.T) {
	g := newGraph(map[string]string{"a": "a"})
	g.check(t, "a", "loop", "a")
	g.check(t, "a", "loop", "")
	// what is inside the one that was come back to is given up, what is outside is not
	g = newGraph(map[string]string{"o": "x p y", "p": "x q", "q": "z r", "r": "p"})
	g.check(t, "o", "o(x() loop y())", "o x p q z r y")
	g.check(t, "q", "q(z() r(loop))", "q r")
	g.check(t, "p", "loop", "")
}

// TestLoopInLoop: a slot that is given up may be the one that is come back to later.
func TestLoopInLoop(t *testing.T) {
	g := newGraph(map[string]string{"a": "b", "b": "c a", "c": "b"})
	g.check(t, "a", "a(loop)", "a b c")
	g.check(t, "c", "c(loop)", "c")
	g = newGraph(map[string]string{"a": "b", "b": "c", "c": "d a b", "d": ""})
	g.check(t, "a", "loop", "a b c d")
	g.check(t, "b", "loop", "b c")
	g.check(t, "c", "c(d() loop loop)", "c")
}

// TestFickle: what came back to itself is worked out in each revision, and may come to the same.
func TestFickle(t *testing.T) {
	g := newGraph(map[string]string{"o": "x p", "p": "x q", "q": "p", "x": "S"})
	g.check(t, "o", "o(x(S) loop)", "o x p q")
	g.change("T", "1")
	g.check(t, "o", "o(x(S) loop)", "p q")
	g.check(t, "q", "q(loop)", "q")
	// q is the one that is come back to, while it is verified
	g.change("T", "2")
	g.check(t, "q", "loop", "p")
	g.check(t, "p", "p(x(S) loop)", "p")
	// the memos of what is given up stay as they were
	g.change("T", "3")
	g.check(t, "p", "loop", "q")
	g.check(t, "o", "o(x(S) loop)", "o")
	g.needs["p"] = "x"
	g.change("S", "1")
	g.check(t, "o", "o(x(S1) p(x(S1)))", "x o p")
	g.check(t, "q", "q(p(x(S1)))", "q")
	g.change("T", "4")
	g.check(t, "o", "o(x(S1) p(x(S1)))", "")
}

// TestGivenUp: what is given up has the memo that it had, also while it is verified.
func TestGivenUp(t *testing.T) {
	g := newGraph(map[string]string{"a": "S b", "b": "c", "c": "T"})
	g.check(t, "a", "a(S b(c(T)))", "a b c")
	g.needs["c"] = "T a"
	g.change("T", "1")
	g.check(t, "a", "loop", "c")
	if got := g.table.slots[Key{Kind: 1, Name: "b"}].common().verified; got != 0 {
		t.Errorf("P5: what was given up was verified at %d, want 0", got)
	}
	if got := g.table.Kept(); got != 3 {
		t.Errorf("P5: %d values are kept, want 3", got)
	}
	g.needs["c"] = "T"
	g.change("T", "2")
	g.check(t, "b", "b(c(T2))", "c b")
	g.check(t, "a", "a(S b(c(T2)))", "a")
}

// TestKeep: those go that were used longest ago; to be verified is not to be used.
func TestKeep(t *testing.T) {
	g := newGraph(map[string]string{"a": "b c", "b": "S", "c": "T"})
	g.check(t, "a", "a(b(S) c(T))", "a b c")
	g.check(t, "b", "b(S)", "")
	g.table.Keep(3)
	if got := g.table.Kept(); got != 3 {
		t.Errorf("P5: %d values are kept, want 3", got)
	}
	g.table.Keep(2)
	g.check(t, "a", "a(b(S) c(T))", "")
	g.check(t, "b", "b(S)", "")
	g.check(t, "c", "c(T)", "c")
	// a goes, though it was made last
	g.check(t, "b", "b(S)", "")
	g.table.Keep(2)
	g.check(t, "b", "b(S)", "")
	g.check(t, "a", "a(b(S) c(T))", "a")
	g.table.Keep(0)
	if got := g.table.Kept(); got != 0 {
		t.Errorf("P5: %d values are kept, want none", got)
	}
	for key, s := range g.table.slots {
		if got := s.(*typed[string]).value; got != "" {
			t.Errorf("P5: %s was dropped and has %q", key.Name, got)
		}
	}
	g.check(t, "a", "a(b(S) c(T))", "a b c")
	g.check(t, "b", "b(S)", "")
	g.change("U", "1")
	g.check(t, "a", "a(b(S) c(T))", "")
	g.table.Keep(2)
	// b and c were verified since, but a and b are those that were used
	g.check(t, "b", "b(S)", "")
	g.check(t, "c", "c(T)", "c")
}

// TestUsedOnce: what is looked at again is not used again.
func TestUsedOnce(t *testing.T) {
	g := newGraph(map[string]string{"a": "b c b"})
	g.check(t, "a", "a(b() c() b())", "a b c")
	g.table.Keep(2)
	g.check(t, "c", "c()", "")
	g.check(t, "b", "b()", "b")
	if got := len(g.table.slots[Key{Kind: 1, Name: "a"}].common().looks); got != 2 {
		t.Errorf("P5: %d looks are noted, want 2", got)
	}
}

// TestDropped: of a slot whose value was dropped it is known whether it has
// changed; once it is worked out again it has.
func TestDropped(t *testing.T) {
	g := newGraph(map[string]string{"a": "b c", "b": "S", "c": "T"})
	g.check(t, "a", "a(b(S) c(T))", "a b c")
	g.table.Keep(1)
	g.change("U", "1")
	g.check(t, "a", "a(b(S) c(T))", "")
	g.change("U", "2")
	g.check(t, "b", "b(S)", "b")
	g.check(t, "a", "a(b(S) c(T))", "a c")
	g.table.Keep(0)
	// it has changed, so there is no need to ask for the dropped value alone
	g.change("S", "1")
	g.check(t, "a", "a(b(S1) c(T))", "b a c")
	// a fickle one too
	g = newGraph(map[string]string{"p": "q", "q": "p"})
	g.check(t, "p", "loop", "p q")
	g.table.Keep(0)
	g.check(t, "p", "loop", "p q")
	g.check(t, "q", "q(loop)", "q")
}

// TestKeepMany holds the heap against a list in which those used last are in front.
func TestKeepMany(t *testing.T) {
	random := rand.New(rand.NewSource(7))
	g := newGraph(map[string]string{})
	var kept []string
	for range 3000 {
		name, began := "n"+strconv.Itoa(random.Intn(60)), ""
		if at := slices.Index(kept, name); at >= 0 {
			kept = slices.Delete(kept, at, at+1)
		} else {
			began = name
		}
		kept = slices.Insert(kept, 0, name)
		g.check(t, name, name+"()", began)
		if most := random.Intn(80); most < 50 {
			g.table.Keep(most)
			kept = kept[:min(most, len(kept))]
		}
		if got := g.table.Kept(); got != len(kept) {
			t.Fatalf("P5: %d values are kept, want %d", got, len(kept))
		}
	}
}

// TestBegan: what was answered is not changed by what comes, nor the other way.
func TestBegan(t *testing.T) {
	g := newGraph(map[string]string{"a": "b"})
	g.check(t, "a", "a(b())", "a b")
	first := g.table.Began()
	first[0].Name = "spoiled"
	if got := g.table.Began(); len(got) != 2 || got[0].Name != "a" {
		t.Errorf("P2: Began is %v behind a list that was written into", got)
	}
	g.check(t, "c", "c()", "c")
	if first[1].Name != "b" {
		t.Errorf("P2: a list that came out before is %v", first)
	}
}

// TestOtherPanics: nothing but a cycle ends at a slot, and what was active is
// put right all the same.
func TestOtherPanics(t *testing.T) {
	var table Table
	rule := Rule[int]{Work: func(*Looks, Key) int { panic("other") }}
	for range 2 {
		func() {
			defer func() {
				if got := recover(); got != "other" {
					t.Errorf("a panic came out as %v", got)
				}
			}()
			Fetch(table.Looks(), Key{}, rule)
			t.Error("a panic did not come out")
		}()
	}
}

// TestTypes: slots of several types stand in one table, those of one kind told
// apart by file and name.
func TestTypes(t *testing.T) {
	var table Table
	letters := Rule[[]string]{
		Work: func(_ *Looks, key Key) []string { return strings.Split(key.File, "") },
		Same: slices.Equal[[]string],
	}
	length := Rule[int]{
		Work: func(looks *Looks, key Key) int { return len(Fetch(looks, Key{2, key.File, ""}, letters)) },
		Same: func(one int, other int) bool { return one == other },
	}
	for _, c := range []struct {
		file, name string
		want       int
	}{{"abc", "", 3}, {"abc", "x", 3}, {"ab", "c", 2}, {"a", "bc", 1}} {
		if got := Fetch(table.Looks(), Key{1, c.file, c.name}, length); got != c.want {
			t.Errorf("the slot of %s, %s has %d, want %d", c.file, c.name, got, c.want)
		}
	}
	if len(table.slots) != 7 || table.Kept() != 7 {
		t.Errorf("there are %d slots and %d values, want 7", len(table.slots), table.Kept())
	}
}
