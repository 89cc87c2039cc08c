// Package slots works values out that are worked out of one another, each once.
package slots

// Key tells which question a slot has the answer of.
type Key struct {
	Kind       int
	File, Name string
}

// Table has the slots that were fetched. One that is new has none.
type Table struct {
	slots map[Key]slot
}

// Rule tells how slots of a kind come by their values. Work fetches what the
// value is worked out of. Looped is the value of a slot that came back to itself.
type Rule[V any] struct {
	Work   func(Key) V
	Looped V
}

// slot is what the table sees of a slot, whatever the type of its value.
type slot interface {
	isActive() bool
	isDone() bool
	loop()
	workOut()
}

// state is what all slots have, whatever the type of their value.
type state struct {
	key    Key
	active bool // being worked out
	done   bool // has its value
	looped bool // what it is worked out of came back to it
}

// typed is a slot with a value of that type.
type typed[V any] struct {
	state
	rule  Rule[V]
	value V
}

// cycle is what unwinds all that is being worked out inside a slot that came back to itself.
type cycle struct{ at Key }

// Fetch answers the value of a slot; all that has the key has the type and the rule.
func Fetch[V any](t *Table, key Key, rule Rule[V]) V {
	s := find(t, key, rule)
	settle(s)
	return s.value
}

func find[V any](t *Table, key Key, rule Rule[V]) *typed[V] {
	if s, ok := t.slots[key].(*typed[V]); ok {
		return s
	}
	s := &typed[V]{state: state{key: key}, rule: rule}
	if t.slots == nil {
		t.slots = map[Key]slot{}
	}
	t.slots[key] = s
	return s
}

// settle sees to it that a slot has its value.
func settle(s slot) {
	switch {
	case s.isActive():
		s.loop()
	case !s.isDone():
		s.workOut()
	}
}

func (s *state) isActive() bool { return s.active }

func (s *state) isDone() bool { return s.done }

func (s *state) enter() { s.active = true }

func (s *state) leave() { s.active = false }

// loop gives up all that is being worked out inside the slot.
func (s *state) loop() {
	s.looped = true
	panic(cycle{s.key})
}

// workOut leaves a slot that is given up as it was: a cycle unwinds through it
// to the one that it was found at, and no further.
func (s *typed[V]) workOut() {
	s.enter()
	defer s.leave()
	defer func() {
		if s.looped {
			recover()
			s.answer(s.rule.Looped)
		}
	}()
	s.answer(s.rule.Work(s.key))
}

func (s *typed[V]) answer(value V) {
	s.value = value
	s.done = true
}
