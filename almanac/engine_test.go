package almanac

import (
	"cmp"
	"maps"
	"math/rand"
	"slices"
	"strconv"
	"strings"
	"testing"

	"almanac/api"
)

// An engine is a second account of what is worked out, word by word as the
// document tells it: what a slot looks at is told by the model of the present
// files, a cycle by an answer, and what was used longest ago is searched for.
type engine struct {
	m        model
	revision int
	changed  map[string]int // by file
	memos    map[question]*memo
	active   map[question]int
	ran      []string
	uses     int
	seen     map[string]int // what has come to pass, and how often
}

// A question of kind 0 is a file.
type question struct {
	kind       int
	file, name string
}

type memo struct {
	looks             []question
	verified, changed int
	value             string
	dropped, fickle   bool
	used              int
}

func newEngine(seen map[string]int) *engine {
	return &engine{m: model{}, changed: map[string]int{}, memos: map[question]*memo{}, active: map[question]int{}, seen: seen}
}

func (q question) text() string {
	return strings.TrimRight(strconv.Itoa(q.kind)+" "+q.file+" "+q.name, " ")
}

func (e *engine) looks(of question) []question {
	var at []question
	look := func(kind int, file string, name string) {
		if q := (question{kind, file, name}); !slices.Contains(at, q) {
			at = append(at, q)
		}
	}
	switch of.kind {
	case api.Known, api.Tokens:
		look(0, of.file, "")
	case api.Tree:
		look(api.Tokens, of.file, "")
	case api.Exports:
		look(api.Tree, of.file, "")
	case api.Find:
		look(api.Tree, of.file, "")
		for _, item := range e.m[of.file].items {
			if item.head == "use" && len(e.m.lets(of.file, of.name)) == 0 {
				look(api.Exports, item.name, "")
			}
		}
	case api.Type:
		look(api.Tree, of.file, "")
		if items := e.m.lets(of.file, of.name); len(items) == 1 {
			for _, name := range items[0].expr.names() {
				look(api.Find, of.file, name)
				if found := e.m.find(of.file, name); found != "none" && found != "two" {
					look(api.Tree, found, "")
				}
			}
		}
	case api.Value:
		look(api.Type, of.file, of.name)
		if kind := e.m.typeOf(of.file, of.name); kind == "int" || kind == "bool" {
			look(api.Tree, of.file, "")
		}
		for _, need := range e.m.needs(of.file, of.name) {
			look(api.Find, of.file, need[1])
			look(api.Value, need[0], need[1])
		}
	case api.Report:
		look(api.Tokens, of.file, "")
		look(api.Tree, of.file, "")
		for _, item := range e.m[of.file].items {
			if item.head == "use" {
				look(api.Known, item.name, "")
			} else if len(e.m.lets(of.file, item.name)) == 1 {
				look(api.Type, of.file, item.name)
				if e.m.typeOf(of.file, item.name) != "bad" {
					look(api.Value, of.file, item.name)
				}
			}
		}
	}
	return at
}

// fetch answers the slot at which a cycle was found that gives this one up.
func (e *engine) fetch(q question, wanted bool) *question {
	if e.active[q] == 1 {
		return &q
	}
	if q.kind == 0 {
		return nil
	}
	e.active[q] = 1
	ran := len(e.ran)
	at := e.fetchNow(q, wanted)
	delete(e.active, q)
	if at != nil && *at == q {
		e.seen["cycle"]++
		if len(e.ran) == ran || e.ran[ran] != q.text() {
			e.seen["cycle while verified"]++
		}
		e.keep(q, nil, "cycle", true)
		at = nil
	}
	if at != nil {
		e.seen["given up"]++
	} else if wanted {
		e.use(q)
	}
	return at
}

func (e *engine) fetchNow(q question, wanted bool) *question {
	m := e.memos[q]
	if m == nil {
		return e.workOut(q, "new")
	}
	if m.verified != e.revision {
		if m.fickle {
			return e.workOut(q, "fickle")
		}
		for _, look := range m.looks {
			if at := e.fetch(look, false); at != nil {
				return at
			}
			if e.changedAt(look) > m.verified {
				return e.workOut(q, "changed")
			}
		}
		m.verified = e.revision
		e.seen["verified"]++
	}
	if wanted && m.dropped {
		return e.workOut(q, "dropped")
	}
	return nil
}

func (e *engine) changedAt(q question) int {
	if q.kind == 0 {
		return e.changed[q.file]
	}
	return e.memos[q].changed
}

func (e *engine) workOut(q question, why string) *question {
	e.seen[why]++
	e.ran = append(e.ran, q.text())
	looks := e.looks(q)
	for _, look := range looks {
		if at := e.fetch(look, true); at != nil {
			return at
		}
	}
	e.keep(q, looks, e.m.answer(q.kind, q.file, q.name), false)
	return nil
}

func (e *engine) keep(q question, looks []question, value string, fickle bool) {
	changed := e.revision
	if old := e.memos[q]; old != nil && !old.dropped && old.value == value {
		changed = old.changed
		e.seen["same"]++
	}
	e.memos[q] = &memo{looks: looks, verified: e.revision, changed: changed, value: value, fickle: fickle}
	e.use(q)
}

func (e *engine) use(q question) {
	e.uses++
	e.memos[q].used = e.uses
}

func (e *engine) kept() []*memo {
	return slices.DeleteFunc(slices.Collect(maps.Values(e.memos)), func(m *memo) bool { return m.dropped })
}

func (e *engine) ask(q question) string {
	e.ran = nil
	e.fetch(q, true)
	answer := e.memos[q].value
	kept := e.kept()
	slices.SortFunc(kept, func(one *memo, other *memo) int { return cmp.Compare(other.used, one.used) })
	for _, m := range kept[min(len(kept), 40):] {
		m.dropped, m.value = true, ""
	}
	return answer
}

func (e *engine) change(file string) {
	e.revision++
	e.changed[file] = e.revision
}

// knotOf is a file the items of which need others, most likely also those that need them.
func knotOf(random *rand.Rand) modelFile {
	var items []modelItem
	for _, at := range random.Perm(len(modelFiles))[:random.Intn(3)] {
		items = append(items, modelItem{head: "use", name: modelFiles[at]})
	}
	names := []string{"i", "j", "k", "l"}
	leaf := func() modelExpr { return modelExpr{word: append(names, "1")[random.Intn(5)]} }
	for _, at := range random.Perm(len(names))[:random.Intn(5)] {
		item := modelItem{head: "pub let", name: names[at], kind: "int", expr: leaf()}
		if random.Intn(2) == 0 {
			item.expr = modelExpr{"+", []modelExpr{leaf(), leaf()}}
		}
		items = append(items, item)
	}
	return modelWritten(random, items, 7)
}

// alter does one random change to a file, the same with the session and the engine.
func alter(t *testing.T, random *rand.Rand, s *Session, e *engine, fileOf func(*rand.Rand) modelFile, earlier map[string]modelFile) {
	t.Helper()
	file := modelFiles[random.Intn(len(modelFiles))]
	old, there := e.m[file]
	next := old
	switch random.Intn(6) {
	case 0:
		s.Remove(file)
		if delete(e.m, file); there {
			e.change(file)
		}
		return
	case 1, 2:
		next = modelWritten(random, old.items, old.ending)
	case 3:
		next = earlier[file]
	case 4:
		next = fileOf(random)
	}
	if len(next.text) > api.MaxText {
		return
	}
	wantSet(t, s, file, next.text, api.OK)
	if !there || next.text != old.text {
		e.change(file)
	}
	e.m[file], earlier[file] = next, old
}

// questionOf is one of many questions or of few: of few hardly a value is dropped.
func questionOf(random *rand.Rand, few bool) question {
	names := []string{"i", "j", "k", "l", "m", "none", "p", "q", "two", "h"}
	q := question{kind: 1 + random.Intn(8), file: append(modelFiles, "gone", "x", "y")[random.Intn(7)]}
	if few {
		q.kind, q.file, names = []int{api.Value, api.Value, api.Report}[random.Intn(3)], modelFiles[random.Intn(3)], names[:4]
	}
	if q.kind >= api.Find && q.kind <= api.Value {
		q.name = names[random.Intn(len(names))]
	}
	return q
}

// TestEngine: what is answered, what ran and what is kept, of files that change.
func TestEngine(t *testing.T) {
	random := rand.New(rand.NewSource(6))
	seen := map[string]int{}
	for round := range 900 {
		s, e, earlier := New(), newEngine(seen), map[string]modelFile{}
		fileOf := []func(*rand.Rand) modelFile{modelFileOf, knotOf}[round%2]
		for range 12 {
			alter(t, random, s, e, fileOf, earlier)
			if ran := s.Ran(); len(ran) != 0 {
				t.Fatalf("P5: a change ran %q", ran)
			}
			for range random.Intn(25) {
				q := questionOf(random, round%3 > 0)
				want := e.ask(q)
				if got, errno := s.Ask(q.kind, q.file, q.name); got != want || want != e.m.answer(q.kind, q.file, q.name) || errno != api.OK {
					t.Fatalf("P4: %s is %q, %d, want %q, of %q", q.text(), got, errno, want, e.m.texts())
				}
				if got := s.Ran(); !slices.Equal(got, e.ran) {
					t.Fatalf("P5: %s ran %q, want %q, of %q", q.text(), got, e.ran, e.m.texts())
				}
				if got, want := s.Look(), (api.State{Revision: e.revision, Files: len(e.m), Kept: len(e.kept())}); got != want {
					t.Fatalf("P5: behind %s the state is %v, want %v", q.text(), got, want)
				}
			}
		}
	}
	for _, what := range []string{"new", "changed", "fickle", "dropped", "verified", "same", "cycle", "cycle while verified", "given up"} {
		if seen[what] < 100 {
			t.Errorf("%q came to pass only %d times", what, seen[what])
		}
	}
	t.Log(seen)
}
