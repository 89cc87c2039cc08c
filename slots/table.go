// Package slots keeps values that are worked out of one another and of sources.
// Sources change; what was worked out is worked out again only if it must be.
package slots

import (
	"slices"
	"strings"
)

// Key tells which question a slot has the answer of.
type Key struct {
	Kind       int
	File, Name string
}

// Table has all slots that were ever fetched, and the sources. One that is new
// has none, and is at revision 0.
type Table struct {
	revision int
	sources  map[string]*source
	slots    map[Key]slot
	began    []Key // to be worked out, since Begin
	kept     byUse
	uses     uint64 // how often a value was used
}

// source is what slots are worked out of in the end. It is not worked out
// itself, it only changes.
type source struct {
	changed int // in which revision, 0 if never
}

// Looks notes what a slot looks at, in order, each once.
type Looks struct {
	table *Table
	at    []looked
}

// looked is what a slot can look at: a source or a slot.
type looked interface {
	changedAt() int
}

// Begin forgets which slots began to be worked out.
func (t *Table) Begin() { t.began = nil }

// Began answers which slots began to be worked out since Begin, in order, also
// those that were given up.
func (t *Table) Began() []Key { return slices.Clone(t.began) }

// Revision answers how often a source has changed.
func (t *Table) Revision() int { return t.revision }

// Change makes a new revision, the one in which that source has changed.
func (t *Table) Change(name string) {
	t.revision++
	t.source(name).changed = t.revision
}

// Looks answers a new one, which has looked at nothing.
func (t *Table) Looks() *Looks { return &Looks{table: t} }

func (t *Table) source(name string) *source {
	if s, ok := t.sources[name]; ok {
		return s
	}
	s := &source{}
	if t.sources == nil {
		t.sources = map[string]*source{}
	}
	t.sources[strings.Clone(name)] = s
	return s
}

func (s *source) changedAt() int { return s.changed }

// Source looks at a source.
func (l *Looks) Source(name string) { l.add(l.table.source(name)) }

func (l *Looks) add(part looked) { l.at = append(l.at, part) }
