package track

import (
	"slices"
	"testing"

	"folio/api"
	"folio/marks"
)

// stage gives snapshots and stamps as a store does: who writes gets the next stamp, who only reads has the last one.
type stage struct {
	r       *Tracker
	last    uint64
	open    []uint64 // the snapshots of those that are open
	done    []api.Done
	refused int
	blind   bool // all are committed, whatever Check says
	drops   bool // what nobody runs beside is let go behind each commit
}

func (s *stage) begin() uint64 {
	s.open = append(s.open, s.last)
	return s.last
}

// commit ends a transaction that has begun with this snapshot.
func (s *stage) commit(snap uint64, c try) {
	at := slices.Index(s.open, snap)
	s.open = slices.Delete(s.open, at, at+1)
	out, e := s.r.Check(snap, c.m, c.l)
	if e != api.OK && !s.blind {
		s.refused++
		return
	}
	if len(c.l) > 0 {
		s.last++
	}
	d := api.Done{Snap: snap, Stamp: s.last, Out: out, Marks: c.m, Changes: c.l}
	s.r.Add(d)
	s.done = append(s.done, d)
	if s.drops {
		least := s.last
		for _, o := range s.open {
			least = min(least, o)
		}
		s.r.Drop(least)
	}
}

// stages are the stages on which no ring may be: one that keeps all, one that lets go what it may, and ones that have less room.
func stages() []*stage {
	var l []*stage
	for _, most := range []int{api.MaxTracked, 2, 1, 0} {
		l = append(l, &stage{r: New(most)}, &stage{r: New(most), drops: true})
	}
	return l
}

// behind says whether a's snapshot is at or above b's stamp.
func behind(a, b api.Done) bool { return a.Snap >= b.Stamp }

// ahead says whether a must stand ahead of b. Two that wrote nothing and saw all that was there would stand each behind the other: either order does for them.
func ahead(a, b api.Done) bool {
	points := b.Stamp > a.Snap && a.Stamp > b.Snap && marks.Hits(a.Marks, b.Changes)
	return points || behind(b, a) && !behind(a, b)
}

// ring says whether there is no order of the done ones: one that no other must stand ahead of is taken out, again and again.
func ring(done []api.Done) bool {
	left := slices.Clone(done)
	for len(left) > 0 {
		first := 0
		for first < len(left) && !leads(left, first) {
			first++
		}
		if first == len(left) {
			return true
		}
		left = slices.Delete(left, first, first+1)
	}
	return false
}

// leads says whether no other must stand ahead of the one at a place.
func leads(left []api.Done, place int) bool {
	for i, d := range left {
		if i != place && ahead(d, left[place]) {
			return false
		}
	}
	return true
}

// schedules are all ways in which so many transactions begin, in the order of their numbers, and end: a number stands first where its one begins, then where it ends.
func schedules(most int) [][]int {
	var all [][]int
	var on func(l []int, begun int, open []int)
	on = func(l []int, begun int, open []int) {
		if len(l) == 2*most {
			all = append(all, slices.Clone(l))
		}
		if begun < most {
			on(append(slices.Clone(l), begun), begun+1, append(slices.Clone(open), begun))
		}
		for i, n := range open {
			on(append(slices.Clone(l), n), begun, slices.Delete(slices.Clone(open), i, i+1))
		}
	}
	on(nil, 0, nil)
	return all
}

// plays lets transactions go as a schedule says.
func (s *stage) plays(schedule []int, plan []try) {
	var snaps [4]uint64
	var begun [4]bool
	for _, n := range schedule {
		if !begun[n] {
			begun[n], snaps[n] = true, s.begin()
			continue
		}
		s.commit(snaps[n], plan[n])
	}
}

// plans hands on all ways in which so many transactions read and write few keys.
func plans(size int, some []try, to func(plan []try)) {
	var on func(plan []try)
	on = func(plan []try) {
		if len(plan) == size {
			to(plan)
			return
		}
		for _, c := range some {
			on(append(plan, c))
		}
	}
	on(make([]try, 0, size))
}

// pairs are all of these marks with all of these changes.
func pairs(m []api.Marks, l [][]api.Change) []try {
	var all []try
	for _, one := range m {
		for _, other := range l {
			all = append(all, try{one, other})
		}
	}
	return all
}

// noRings fails if a ring is committed in one of the plays, or if none would be without a Check.
func noRings(t *testing.T, size int, some []try, keeps func() []*stage) {
	all, rings, fine := schedules(size), 0, 0
	plans(size, some, func(plan []try) {
		for _, schedule := range all {
			free := &stage{r: New(0), blind: true}
			free.plays(schedule, plan)
			bad := ring(free.done)
			if bad {
				rings++
			}
			for _, s := range keeps() {
				s.plays(schedule, plan)
				if ring(s.done) || bad && s.refused == 0 {
					t.Fatalf("a ring is committed: %v, %v: %v", schedule, plan, s.done)
				}
				if s.refused == 0 {
					fine++
				}
			}
		}
	})
	if rings == 0 || fine == 0 {
		t.Error("plays that tell little", rings, fine)
	}
}

// No three transactions that read and write a key each make a ring, however they begin and end: P13.4.
func TestNoRingOfThree(t *testing.T) {
	some := pairs([]api.Marks{{}, read(x), read(y), read(z)}, [][]api.Change{nil, write(x), write(y), write(z)})
	noRings(t, 3, some, stages)
}

// Nor do four of two keys.
func TestNoRingOfFour(t *testing.T) {
	some := pairs([]api.Marks{{}, read(x), read(y)}, [][]api.Change{nil, write(x), write(y)})
	noRings(t, 4, some[1:], func() []*stage { return []*stage{{r: New(api.MaxTracked), drops: true}} })
}

// Ranges that were read by their predicates make no ring either.
func TestNoRingOfRanges(t *testing.T) {
	vx, vy := row(one("n", "x")), row(one("n", "y"))
	by := func(text string) api.Marks { return api.Marks{Ranges: []api.Range{span("A", is("n", text))}} }
	some := pairs([]api.Marks{{}, by("x"), by("y"), read(z)}, [][]api.Change{nil, {put(x, vx, vx)}, {put(y, vx, vy)}, {put(z, vy, vy)}})
	noRings(t, 3, some, stages)
}

// Not all is refused: of two side by side that must stand ahead of each other one is, of two in a row none.
func TestTwoTransactions(t *testing.T) {
	s := &stage{r: New(4)}
	s.plays([]int{0, 1, 0, 1}, []try{{read(x), write(y)}, {read(z), write(x)}})
	if s.refused != 0 || s.done[0].Out || s.done[1].Out {
		t.Error("in a row:", s.done)
	}
	s = &stage{r: New(4)}
	s.plays([]int{0, 1, 0, 1}, []try{{read(x), write(y)}, {read(y), write(x)}})
	if s.refused != 1 || len(s.done) != 1 {
		t.Error("both ways:", s.done)
	}
	s = &stage{r: New(4)}
	s.plays([]int{0, 0, 1, 1, 2, 2}, []try{{read(x, y), write(x, y)}, {read(x, y), write(x, y)}, {read(x, y), nil}})
	if s.refused != 0 || len(s.done) != 3 || s.done[2].Stamp != 2 || s.done[2].Out {
		t.Error("one after the other:", s.done)
	}
}

// Two that read the same last stamp and write nothing are both committed: nobody points at either.
func TestReadersBesideEachOther(t *testing.T) {
	s := &stage{r: New(4)}
	s.plays([]int{0, 0, 1, 2, 1, 2}, []try{{api.Marks{}, write(x)}, {read(x), nil}, {read(x), nil}})
	if s.refused != 0 || len(s.done) != 3 || s.done[1].Out || s.done[2].Out || ring(s.done) {
		t.Error(s.done)
	}
}

// Many transactions in a row, several open at a time, that read and write some of many keys.
func TestNoRingInLongRuns(t *testing.T) {
	seed := uint32(4)
	next := func(n int) int {
		seed = seed*1664525 + 1013904223
		return int(seed>>8) % n
	}
	some := func() []api.Key {
		var l []api.Key
		for range next(3) {
			l = append(l, api.Key{Type: "A", ID: string(rune('a' + next(5)))})
		}
		return l
	}
	for round := range 40 {
		refused := 0
		for _, s := range stages() {
			for range 150 {
				if len(s.open) < 5 && next(2) == 0 {
					s.begin()
				} else if len(s.open) > 0 {
					s.commit(s.open[next(len(s.open))], try{read(some()...), write(some()...)})
				}
			}
			if refused += s.refused; ring(s.done) {
				t.Fatal("a ring is committed in round", round, s.done)
			}
			if len(s.done) < 10 {
				t.Error("a run that tells little", len(s.done))
			}
		}
		if refused == 0 {
			t.Error("nobody was refused in round", round)
		}
	}
}
