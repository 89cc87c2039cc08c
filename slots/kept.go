package slots

import "container/heap"

// byUse is a heap of the slots that keep their values, the one that was used
// longest ago on top.
type byUse []slot

func (b byUse) Len() int { return len(b) }

func (b byUse) Less(i, j int) bool { return b[i].common().used < b[j].common().used }

func (b byUse) Swap(i, j int) {
	b[i], b[j] = b[j], b[i]
	b[i].common().place, b[j].common().place = i, j
}

func (b *byUse) Push(x any) {
	s := x.(slot)
	s.common().place = len(*b)
	*b = append(*b, s)
}

func (b *byUse) Pop() any {
	last := len(*b) - 1
	s := (*b)[last]
	(*b)[last] = nil
	*b = (*b)[:last]
	s.common().place = noPlace
	return s
}

// use notes that the value of a slot was used now; one that is new is kept from now on.
func use(s slot) {
	c := s.common()
	c.table.uses++
	c.used = c.table.uses
	if s.isDropped() {
		heap.Push(&c.table.kept, s)
	} else {
		heap.Fix(&c.table.kept, c.place)
	}
}

// Kept answers how many values are kept.
func (t *Table) Kept() int { return len(t.kept) }

// Keep drops those values that were used longest ago, until no more than most are kept.
func (t *Table) Keep(most int) {
	for len(t.kept) > most {
		heap.Pop(&t.kept).(slot).drop()
	}
}
