package audit

import (
	"math"
	"slices"
	"testing"

	"folio/api"
)

// spot is a node that was asked and answered at places, on a snapshot, with a stamp.
func spot(asked, answered int, snap, stamp uint64) Node {
	return Node{Asked: asked, Answered: answered, Answer: api.Answer{Snap: snap, Stamp: stamp}}
}

// writing is a node that writes a key, from nothing to nothing.
func writing(n Node, keys ...api.Key) Node {
	for _, k := range keys {
		n.Changes = append(n.Changes, api.Change{Key: k})
	}
	return n
}

// reading is a node that has read keys.
func reading(n Node, keys ...api.Key) Node {
	n.Marks.Keys = append(slices.Clone(n.Marks.Keys), keys...)
	return n
}

// ahead fails unless Ahead says so, and Order goes by it.
func ahead(t *testing.T, what string, a, b Node, want bool) {
	t.Helper()
	if Ahead(a, b) != want {
		t.Errorf("%s: Ahead %v", what, !want)
	}
	// With b first only what stands ahead puts a ahead.
	got, ok := Order([]Node{b, a})
	switch back := Ahead(b, a); {
	case want && back:
		if ok || len(got) > 0 {
			t.Errorf("%s: %v %v, though each stands ahead of the other", what, got, ok)
		}
	case want != (ok && slices.Equal(got, []int{1, 0})) || !want && !slices.Equal(got, []int{0, 1}):
		t.Errorf("%s: %v %v", what, got, ok)
	}
}

// What stands ahead because it was answered ahead: P22.1.
func TestAheadAnswered(t *testing.T) {
	ahead(t, "answered ahead", spot(0, 1, 0, 0), spot(2, 3, 0, 0), true)
	ahead(t, "at one place", spot(0, 2, 0, 0), spot(2, 3, 0, 0), false)
	ahead(t, "behind", spot(0, 3, 0, 0), spot(2, 5, 0, 0), false)
	ahead(t, "the other way", spot(2, 3, 0, 0), spot(0, 1, 0, 0), false)
	ahead(t, "edges", spot(0, math.MinInt, 0, 0), spot(math.MaxInt, math.MaxInt, 0, 0), true)
	ahead(t, "edges", spot(0, -1, 0, 0), spot(0, 0, 0, 0), true)
	ahead(t, "zero", Node{}, Node{}, false)
	ahead(t, "each of the other", spot(9, 1, 0, 0), spot(9, 1, 0, 0), true)
}

// What stands ahead because it was seen: P22.1.
func TestAheadSeen(t *testing.T) {
	k := key("A", "a")
	for _, stamp := range []uint64{0, 1, 5, math.MaxUint64} {
		for _, snap := range []uint64{0, 1, 4, 5, 6, math.MaxUint64} {
			ahead(t, "seen", writing(spot(0, 9, 0, stamp), k), spot(0, 9, snap, 0), stamp <= snap)
			ahead(t, "nothing to see", spot(0, 9, 0, stamp), spot(0, 9, snap, 0), false)
			// Seen or not hangs on b's snapshot and a's stamp alone.
			ahead(t, "other numbers", writing(spot(0, 9, 99, stamp), k), spot(0, 9, snap, 99), stamp <= snap)
		}
	}
}

// What stands ahead because it has read what the other one wrote behind its snapshot: P22.1.
func TestAheadMissed(t *testing.T) {
	a, b := key("A", "a"), key("A", "b")
	for _, snap := range []uint64{0, 4, 5, math.MaxUint64} {
		for _, stamp := range []uint64{1, 4, 5, 6, math.MaxUint64} {
			n := reading(spot(0, 9, snap, 99), a, b)
			ahead(t, "missed", n, writing(spot(0, 9, 99, stamp), b), stamp > snap)
			ahead(t, "other keys", n, writing(spot(0, 9, 99, stamp), key("B", "b"), key("A", "c")), false)
			ahead(t, "the last of three", n, writing(spot(0, 9, 99, stamp), key("B", "b"), key("A", "c"), a), stamp > snap)
			ahead(t, "no marks", spot(0, 9, snap, 99), writing(spot(0, 9, 99, stamp), b), false)
			ahead(t, "nothing written", n, spot(0, 9, 99, stamp), false)
		}
	}
}

// Ranges are hit by what was and by what is: P22.1.
func TestAheadRanges(t *testing.T) {
	n := spot(0, 9, 3, 0)
	n.Marks.Ranges = []api.Range{{Type: "B"}, {Type: "A", Pred: []api.Term{{Field: "n", Op: api.OpIs, Text: "x"}}}}
	x, y := row(one("n", "x")), row(one("n", "y"))
	for _, c := range []struct {
		change api.Change
		want   bool
	}{
		{api.Change{Key: key("A", "q"), WasLive: true, Was: x, IsLive: true, Is: y}, true},
		{api.Change{Key: key("A", "q"), WasLive: true, Was: y, IsLive: true, Is: x}, true},
		{api.Change{Key: key("A", "q"), WasLive: true, Was: y, IsLive: true, Is: y}, false},
		{api.Change{Key: key("A", "q"), Was: x, IsLive: true, Is: y}, false},
		{api.Change{Key: key("A", "q"), WasLive: true, Was: y, Is: x}, false},
		{api.Change{Key: key("A", "q"), WasLive: true, Was: x}, true},
		{api.Change{Key: key("B", "q"), IsLive: true}, true},
		{api.Change{Key: key("C", "q"), IsLive: true, Is: x}, false},
	} {
		m := spot(0, 9, 0, 4)
		m.Changes = []api.Change{{Key: key("D", "d")}, c.change}
		ahead(t, "a range", n, m, c.want)
		m.Answer.Stamp = 3
		ahead(t, "a range that was seen", n, m, false)
	}
}

// The lowest place first, of those that wait for none: P22.1.
func TestOrder(t *testing.T) {
	orders(t, nil)
	orders(t, []Node{})
	orders(t, []Node{{}}, 0)
	orders(t, make([]Node, 5), 0, 1, 2, 3, 4)
	// One that would stand ahead of itself does not.
	self := reading(writing(spot(7, 2, 5, 5), key("A", "a")), key("A", "a"))
	self.Answer.Stamp = 6
	if !Ahead(self, self) {
		t.Error("taken for unlike ones")
	}
	orders(t, []Node{self}, 0)
	stuck(t, []Node{self, self})
	stuck(t, []Node{{}, self, {}, self})
	// By the places of asks and answers.
	orders(t, []Node{spot(6, 7, 0, 0), spot(4, 5, 0, 0), spot(2, 3, 0, 0), spot(0, 1, 0, 0)}, 3, 2, 1, 0)
	orders(t, []Node{spot(2, 9, 0, 0), spot(4, 9, 0, 0), spot(0, 1, 0, 0), spot(0, 9, 0, 0)}, 2, 0, 1, 3)
	orders(t, []Node{spot(8, 9, 0, 0), spot(0, 9, 0, 0), spot(4, 5, 0, 0), spot(0, 3, 0, 0), spot(0, 9, 0, 0)}, 1, 3, 2, 0, 4)
	// Three in a ring, and one that waits for them; the one that waits for none is not told either.
	a, b, c := key("A", "a"), key("A", "b"), key("A", "c")
	ring := []Node{
		reading(writing(spot(0, 9, 0, 1), a), b), reading(writing(spot(0, 9, 0, 2), b), c), reading(writing(spot(0, 9, 0, 3), c), a),
	}
	stuck(t, ring)
	stuck(t, append(ring, spot(0, 9, 0, 0), spot(20, 21, 0, 0)))
	orders(t, ring[:2], 0, 1)
	orders(t, ring[1:], 0, 1)
	orders(t, []Node{ring[2], ring[0]}, 0, 1)
	orders(t, []Node{ring[0], ring[2]}, 1, 0)
	// One that waits for another because of two keys waits for it once.
	orders(t, []Node{writing(spot(0, 9, 0, 1), a, b, a), reading(spot(0, 9, 0, 0), a, b)}, 1, 0)
	// Many, each of which waits for the one behind it.
	var l []Node
	var want []int
	for i := range 600 {
		l = append(l, spot(2*(600-i), 2*(600-i)+1, 0, 0))
		want = append(want, 599-i)
	}
	orders(t, l, want...)
}

// What the model answers otherwise, or refuses, is bad: P22.1.
func TestVerify(t *testing.T) {
	verifies(t, nil)
	for _, e := range wholes() {
		verifies(t, played(t, e))
	}
	script := "tick 5\n0 create A/a n=1\n0 read A/a\n0 create A/a n=2\n1 create B/b m=1\n"
	for _, c := range []struct {
		what string
		turn func(a *api.Answer)
		at   int // of the answers: A/a made, B/b made, A/a read, A/a there already
		bad  []int
	}{
		{"a stamp", func(a *api.Answer) { a.Stamp = 7 }, 1, []int{1}},
		{"a tick", func(a *api.Answer) { a.Tick++ }, 1, []int{1}},
		{"a status", func(a *api.Answer) { a.Status = api.Exists }, 1, []int{1}},
		{"a place", func(a *api.Answer) { a.At = 1 }, 1, []int{1}},
		{"tries", func(a *api.Answer) { a.Tries = 9 }, 1, nil},
		{"no replies", func(a *api.Answer) { a.Replies = nil }, 1, []int{1}},
		{"one more", func(a *api.Answer) { a.Replies = append(a.Replies, api.Reply{}) }, 1, []int{1}},
		{"a kind", func(a *api.Answer) { a.Replies[0].Kind = api.RepFound }, 1, []int{1}},
		{"no find", func(a *api.Answer) { a.Replies[0].List = nil }, 1, []int{1}},
		{"a find more", func(a *api.Answer) { a.Replies[0].List = append(a.Replies[0].List, api.Found{}) }, 1, []int{1}},
		{"a key", func(a *api.Answer) { a.Replies[0].List[0].Key.ID = "z" }, 1, []int{1}},
		{"a number", func(a *api.Answer) { a.Replies[0].List[0].Version.Number++ }, 1, []int{1}},
		{"a find's stamp", func(a *api.Answer) { a.Replies[0].List[0].Version.Stamp++ }, 1, []int{1}},
		{"a find's tick", func(a *api.Answer) { a.Replies[0].List[0].Version.Tick++ }, 1, []int{1}},
		{"live", func(a *api.Answer) { a.Replies[0].List[0].Version.Live = false }, 1, []int{1}},
		{"a value", func(a *api.Answer) { a.Replies[0].List[0].Version.Value = nil }, 1, []int{1}},
		{"a field", func(a *api.Answer) { a.Replies[0].List[0].Version.Value[0].Name = "z" }, 1, []int{1}},
		{"a text", func(a *api.Answer) { a.Replies[0].List[0].Version.Value[0].Texts[0] = "z" }, 1, []int{1}},
		{"texts", func(a *api.Answer) { a.Replies[0].List[0].Version.Value[0].Texts = nil }, 1, []int{1}},
		{"a stamp that others have read", func(a *api.Answer) { a.Stamp = 0 }, 0, []int{0, 2, 3}},
		{"success", func(a *api.Answer) { a.Status = api.Success }, 3, []int{3}},
		{"absent", func(a *api.Answer) { a.Status = api.Absent }, 3, []int{3}},
		{"where it fails", func(a *api.Answer) { a.At = 1 }, 3, []int{3}},
		{"a stamp of what fails", func(a *api.Answer) { a.Stamp = 9 }, 3, []int{3}},
		{"a tick of what fails", func(a *api.Answer) { a.Tick = 9 }, 3, []int{3}},
		{"a reply of what fails", func(a *api.Answer) { a.Replies = []api.Reply{{}} }, 3, []int{3}},
		{"tries of what fails", func(a *api.Answer) { a.Tries = -9 }, 3, nil},
	} {
		l := played(t, script)
		verifies(t, l)
		var places []int
		for at, e := range l {
			if e.Kind == api.EvAnswer {
				places = append(places, at)
			}
		}
		if len(places) != 4 {
			t.Fatal(places)
		}
		c.turn(&l[places[c.at]].Answer)
		if bad, ok, e := Verify(l); !ok || e != api.OK || !slices.Equal(bad, c.bad) {
			t.Errorf("%s: %v %v %v, not %v", c.what, bad, ok, e, c.bad)
		}
	}
}

// One whose stamp is not above its key's is bad, and puts nothing in; without an order nothing is told: P22.1.
func TestVerifyRefused(t *testing.T) {
	l := played(t, "0 create A/a n=1\n0 update A/a n=2\n0 update A/a n=3\n0 read A/a")
	verifies(t, l)
	l[3].Answer.Stamp = 1
	verifies(t, l, 1, 2, 3)
	l = played(t, "0 create A/a n=1\n1 create A/b n=1\n2 read A/a ; update A/b n=2\n3 read A/b ; update A/a n=2\npick 0 0 0 1 1 1 2 3 2 3 2 3 2 3")
	verifies(t, l)
	// The second writer has seen neither's writing of the other: as if both had been committed on one snapshot.
	for i := range l {
		if l[i].Kind == api.EvAnswer && l[i].Client == 3 {
			l[i].Answer.Snap = 2
		}
	}
	if bad, ok, e := Verify(l); ok || e != api.OK || len(bad) > 0 {
		t.Error(bad, ok, e)
	}
	stuck(t, nodesOf(t, l))
	refused(t, "what follows isn't asked", append(l, api.Event{}))
}
