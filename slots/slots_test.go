package slots

import (
	"slices"
	"strings"
	"testing"
)

// graph works texts out of one another: each is its name and, in brackets, what it needs.
type graph struct {
	table Table
	needs map[string]string
	began []string
}

func (g *graph) fetch(name string) string {
	return Fetch(&g.table, Key{Kind: 1, Name: name}, Rule[string]{Work: g.work, Looped: "loop"})
}

func (g *graph) work(key Key) string {
	g.began = append(g.began, key.Name)
	var parts []string
	for _, need := range strings.Fields(g.needs[key.Name]) {
		parts = append(parts, g.fetch(need))
	}
	return key.Name + "(" + strings.Join(parts, " ") + ")"
}

func (g *graph) check(t *testing.T, name string, want string, began string) {
	t.Helper()
	g.began = nil
	if got := g.fetch(name); got != want {
		t.Errorf("P4: %s = %q, want %q", name, got, want)
	}
	if !slices.Equal(g.began, strings.Fields(began)) {
		t.Errorf("P4: %s began %q, want %q", name, g.began, began)
	}
	for key, s := range g.table.slots {
		if s.isActive() {
			t.Errorf("P4: %s is active behind %s", key.Name, name)
		}
	}
}

func TestOnce(t *testing.T) {
	g := &graph{needs: map[string]string{"a": "b c", "b": "d", "c": "d b"}}
	g.check(t, "a", "a(b(d()) c(d() b(d())))", "a b d c")
	g.check(t, "a", "a(b(d()) c(d() b(d())))", "")
	g.check(t, "d", "d()", "")
	g.check(t, "e", "e()", "e")
}

func TestLoop(t *testing.T) {
	g := &graph{needs: map[string]string{"a": "a"}}
	g.check(t, "a", "loop", "a")
	g.check(t, "a", "loop", "")
	// what is inside the one that was come back to is given up, what is outside is not
	g = &graph{needs: map[string]string{"o": "x p y", "p": "x q", "q": "z r", "r": "p"}}
	g.check(t, "o", "o(x() loop y())", "o x p q z r y")
	g.check(t, "q", "q(z() r(loop))", "q r")
	g.check(t, "p", "loop", "")
}

// TestLoopInLoop: a slot that is given up may be the one that is come back to later.
func TestLoopInLoop(t *testing.T) {
	g := &graph{needs: map[string]string{"a": "b", "b": "c a", "c": "b"}}
	g.check(t, "a", "a(loop)", "a b c")
	g.check(t, "c", "c(loop)", "c")
	g = &graph{needs: map[string]string{"a": "b", "b": "c", "c": "d a b", "d": ""}}
	g.check(t, "a", "loop", "a b c d")
	g.check(t, "b", "loop", "b c")
	g.check(t, "c", "c(d() loop loop)", "c")
}

// TestOtherPanics: nothing but a cycle ends at a slot.
func TestOtherPanics(t *testing.T) {
	var table Table
	rule := Rule[int]{Work: func(Key) int { panic("other") }}
	for range 2 {
		func() {
			defer func() {
				if got := recover(); got != "other" {
					t.Errorf("a panic came out as %v", got)
				}
			}()
			Fetch(&table, Key{}, rule)
			t.Error("a panic did not come out")
		}()
	}
}

// TestTypes: slots of several types stand in one table, those of one kind told
// apart by file and name.
func TestTypes(t *testing.T) {
	var table Table
	number := func(key Key) int {
		return len(Fetch(&table, Key{2, key.File, ""}, Rule[[]string]{Work: func(key Key) []string { return strings.Split(key.File, "") }}))
	}
	for _, c := range []struct {
		file, name string
		want       int
	}{{"abc", "", 3}, {"abc", "x", 3}, {"ab", "c", 2}, {"a", "bc", 1}} {
		if got := Fetch(&table, Key{1, c.file, c.name}, Rule[int]{Work: number}); got != c.want {
			t.Errorf("the slot of %s, %s has %d, want %d", c.file, c.name, got, c.want)
		}
	}
	if len(table.slots) != 7 {
		t.Errorf("there are %d slots, want 7", len(table.slots))
	}
}
