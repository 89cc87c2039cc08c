package slots

import (
	"slices"
	"strings"
)

// Rule tells how slots of a kind come by their values. Work fetches what the
// value is worked out of. Same tells whether two values are the same. Looped is
// the value of a slot that came back to itself.
type Rule[V any] struct {
	Work   func(*Looks, Key) V
	Same   func(V, V) bool
	Looped V
}

// slot is what the table sees of a slot, whatever the type of its value.
type slot interface {
	looked
	common() *state
	enter()
	leave()
	isLooped() bool
	isDropped() bool
	verify() bool
	workOut()
	loopOut()
	drop()
}

// state is what all slots have, whatever the type of their value: the memo, but
// for the value itself, and how the slot stands just now.
type state struct {
	table    *Table
	key      Key
	active   bool // being fetched, and not yet answered
	looped   bool // what it is worked out of came back to it
	looks    []looked
	verified int // at which revision, noMemo if it was never worked out
	changed  int // at which revision
	fickle   bool
	place    int // among those that keep their values, noPlace if it keeps none
	used     uint64
}

const (
	noMemo  = -1
	noPlace = -1
)

// typed is a slot with a value of that type.
type typed[V any] struct {
	state
	rule  Rule[V]
	value V
}

// cycle is what unwinds all that is being fetched inside a slot that came back to itself.
type cycle struct{ at Key }

// Fetch answers the value of a slot, and has the looks note it; all that has the
// key has the type and the rule.
func Fetch[V any](looks *Looks, key Key, rule Rule[V]) V {
	s := find(looks.table, key, rule)
	if !slices.Contains(looks.at, looked(s)) {
		settle(s, true)
		looks.add(s)
	}
	return s.value
}

// find copies the key that it keeps: its texts may be pieces of far longer ones.
func find[V any](t *Table, key Key, rule Rule[V]) *typed[V] {
	if s, ok := t.slots[key].(*typed[V]); ok {
		return s
	}
	key.File, key.Name = strings.Clone(key.File), strings.Clone(key.Name)
	s := &typed[V]{state: state{table: t, key: key, verified: noMemo, place: noPlace}, rule: rule}
	if t.slots == nil {
		t.slots = map[Key]slot{}
	}
	t.slots[key] = s
	return s
}

// settle fetches a slot: for its value, if that is wanted, else only to know
// when it changed. A cycle unwinds to the slot that it was found at, and no
// further; the ones inside that are left as they were.
func settle(s slot, wanted bool) {
	s.enter()
	defer s.leave()
	defer func() {
		if s.isLooped() {
			recover()
			s.loopOut()
		}
	}()
	switch {
	case !s.verify() || wanted && s.isDropped():
		s.workOut()
	case wanted:
		use(s)
	}
}

func (s *state) common() *state { return s }

func (s *state) isLooped() bool { return s.looped }

func (s *state) isDropped() bool { return s.place == noPlace }

// enter gives up all that is being fetched inside the slot, if that came back to it.
func (s *state) enter() {
	if s.active {
		s.looped = true
		panic(cycle{s.key})
	}
	s.active = true
}

func (s *state) leave() { s.active, s.looped = false, false }

// verify tells whether the memo holds in this revision too.
func (s *state) verify() bool {
	now := s.table.revision
	if s.verified == now {
		return true
	}
	if s.verified == noMemo || s.fickle {
		return false
	}
	for _, part := range s.looks {
		if part.changedAt() > s.verified {
			return false
		}
	}
	s.verified = now
	return true
}

func (s *typed[V]) changedAt() int {
	settle(s, false)
	return s.changed
}

func (s *typed[V]) workOut() {
	s.table.began = append(s.table.began, s.key)
	looks := s.table.Looks()
	value := s.rule.Work(looks, s.key)
	s.answer(value, looks.at)
}

// loopOut makes the memo fickle: it cannot tell by what it looked at whether it holds.
func (s *typed[V]) loopOut() {
	s.answer(s.rule.Looped, nil)
	s.fickle = true
}

// answer makes the memo. Against a value that was dropped the new one cannot be
// held, so it counts as changed.
func (s *typed[V]) answer(value V, looks []looked) {
	now := s.table.revision
	if s.isDropped() || !s.rule.Same(s.value, value) {
		s.changed = now
	}
	s.value, s.looks, s.verified, s.fickle = value, looks, now, false
	use(s)
}

func (s *typed[V]) drop() {
	var nothing V
	s.value = nothing
}
