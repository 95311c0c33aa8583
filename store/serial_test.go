package store

import (
	"slices"
	"testing"

	"folio/api"
)

// deed is what a transaction of a script has done.
type deed struct {
	begun, ended int // the places of the script at which it was begun and committed
	committed    bool
	stamp        uint64
	tick         int64
	calls        []call
	told         []told
}

// deeds are what the transactions of a script do in a store.
func deeds(s *Store, script []call) []*deed {
	r := &real{store: s}
	var all []*deed
	for i, c := range script {
		if c.kind == cBegin {
			all = append(all, &deed{begun: i})
		}
		over := c.kind > cVacuum && r.txns[c.txn].Ended()
		got := r.do(c)
		if c.kind <= cVacuum || over {
			continue
		}
		d := all[c.txn]
		if c.kind != cCommit && c.kind != cGive {
			d.calls, d.told = append(d.calls, c), append(d.told, got)
		}
		if c.kind == cCommit && got.e == api.OK {
			d.committed, d.ended, d.stamp, d.tick = true, i, got.stamp, s.Tick(0)
		}
	}
	return all
}

// agrees says whether what was told is what is told when the transactions are done one after the other. What was below the floor isn't told there. Of what a transaction has written and dropped later, the number that a Scan told it isn't kept to by its marks.
func agrees(got, want told, dropped bool) bool {
	if got.e == api.ErrOld {
		return true
	}
	plainly := func(l []api.Found) []api.Found {
		l = slices.Clone(l)
		for i := range l {
			if dropped && l[i].Version.Stamp == 0 {
				l[i].Version.Number = 0
			}
		}
		return l
	}
	got.list, want.list = plainly(got.list), plainly(want.list)
	return sameTold(got, want)
}

// next is the world behind a deed that is done in it by itself, and whether all that it was told is so there.
func (d *deed) next(world *plain) (*plain, bool) {
	x := &plainTxn{store: world, snap: api.MaxStamp}
	for i, c := range d.calls {
		dropped := slices.ContainsFunc(d.calls[i:], func(c call) bool { return c.kind == cDrop })
		if !agrees(d.told[i], x.do(c), dropped) {
			return nil, false
		}
	}
	behind := &plain{rows: slices.Clip(world.rows)}
	for _, c := range x.changes() {
		if l := world.of(c.Key); len(l) > 0 && l[len(l)-1].Stamp >= d.stamp {
			return nil, false
		}
		behind.put(c.Key, d.stamp, d.tick, c.IsLive, c.Is)
	}
	return behind, true
}

// order looks for an order of the deeds, one behind all that were committed ahead of its beginning.
type order struct {
	deeds []*deed
	seen  map[uint64]bool // sets of deeds behind which there is no order; the world behind a set is always the same one
}

func (o *order) from(world *plain, set uint64) bool {
	if set == 1<<len(o.deeds)-1 {
		return true
	}
	if o.seen[set] {
		return false
	}
	for i, d := range o.deeds {
		if set&(1<<i) != 0 || !o.free(d, set) {
			continue
		}
		if behind, ok := d.next(world); ok && o.from(behind, set|1<<i) {
			return true
		}
	}
	o.seen[set] = true
	return false
}

// free says whether all that were committed ahead of a deed's beginning are in the set.
func (o *order) free(d *deed, set uint64) bool {
	for i, other := range o.deeds {
		if set&(1<<i) == 0 && other.ended < d.begun {
			return false
		}
	}
	return true
}

// serial says whether the committed ones of a script can be put in an order in which each one's reads are what they would be one after the other.
func serial(s *Store, script []call) bool {
	all := slices.DeleteFunc(deeds(s, script), func(d *deed) bool { return !d.committed })
	slices.SortFunc(all, func(a, b *deed) int { return a.ended - b.ended })
	o := &order{deeds: all, seen: map[uint64]bool{}}
	return o.from(&plain{}, 0)
}

func made(t *testing.T, c api.Config) *Store {
	t.Helper()
	s, e := New(c)
	if s == nil || e != api.OK {
		t.Fatal(s, e)
	}
	return s
}

// Long scripts of all calls are serial: P15.3.
func TestDrawnSerial(t *testing.T) {
	d := &draw{seed: 153}
	for _, c := range drawnConfigs() {
		if c.Versions < 8 || c.First == api.MaxStamp {
			continue
		}
		for range 150 {
			if script := drawn(d, c.First, 70); !serial(made(t, c), script) {
				t.Fatalf("%+v: %+v", c, script)
			}
		}
	}
}

// shuffles calls yield with all orders in which so many can each be taken so often.
func shuffles(left []int, taken []int, yield func([]int)) {
	last := true
	for i := range left {
		if left[i] > 0 {
			last = false
			left[i]--
			shuffles(left, append(taken, i), yield)
			left[i]++
		}
	}
	if last {
		yield(taken)
	}
}

// readers are reads that look at A/a, A/b, all that is n=x, and what is there above the snapshot.
func readers() []call {
	return []call{
		{kind: cRead, key: key("A", "a")},
		{kind: cRead, key: key("A", "b")},
		{kind: cScan, typ: "A", pred: terms(is("n", "x"))},
		{kind: cAt, key: key("A", "a"), at: 9},
		{kind: cFind, typ: "A", pred: terms(is("n", "y")), at: 9},
		{kind: cHistory, key: key("A", "b"), at: 0},
		{kind: cSince, typ: "A", at: 0},
		{kind: cNumber, key: key("A", "a"), n: 2},
	}
}

// writers are none, and writes of A/a and A/b.
func writers() []call {
	return []call{
		{kind: cDrop},
		{kind: cPut, key: key("A", "b"), value: fields(one("n", "x"))},
		{kind: cPut, key: key("A", "a"), value: fields(one("n", "y"))},
		{kind: cDelete, key: key("A", "a")},
	}
}

// programs are one read and one write each.
func programs(readers, writers []call) [][]call {
	var l [][]call
	for _, r := range readers {
		for _, w := range writers {
			l = append(l, []call{r, w})
		}
	}
	return l
}

// woven is a script: A/a is made, then each transaction begins, reads and writes at its first turn, and is committed at its second.
func woven(turns []int, programs [][]call) []call {
	script := []call{{kind: cBegin}, {kind: cPut, key: key("A", "a"), value: fields(one("n", "x"))}, {kind: cCommit}}
	number := map[int]int{}
	for _, who := range turns {
		if n, begun := number[who]; begun {
			script = append(script, call{kind: cCommit, txn: n})
			continue
		}
		number[who] = len(number) + 1
		script = append(script, call{kind: cBegin})
		for _, c := range programs[who] {
			c.txn = number[who]
			script = append(script, c)
		}
	}
	return script
}

// All ways in which three transactions, each of which reads one thing and writes at most one, can be woven into one another are serial: P15.3.
func TestWovenSerial(t *testing.T) {
	var turns [][]int
	shuffles([]int{2, 2, 2}, nil, func(l []int) {
		// Who comes first has the least number: other orders are the same scripts again.
		if first := slices.Index(l, 1); slices.Index(l, 0) < first && first < slices.Index(l, 2) {
			turns = append(turns, slices.Clone(l))
		}
	})
	third := programs(readers()[:3], writers()[:3])
	config := api.Config{Versions: 20, Tracked: 8, Tries: 1}
	for _, p := range programs(readers(), writers()[:3]) {
		for _, q := range programs(readers()[:4], writers()) {
			for _, r := range third {
				for _, l := range turns {
					if script := woven(l, [][]call{p, q, r}); !serial(made(t, config), script) {
						t.Fatalf("%+v", script)
					}
				}
			}
		}
	}
}

// One that begins when nothing is open, and is committed ahead of any other's beginning, is never refused by ErrClash, whatever was done ahead of it: P15.5.
func TestAlone(t *testing.T) {
	d := &draw{seed: 155}
	for _, c := range drawnConfigs() {
		for range 60 {
			r := &real{store: made(t, c)}
			for _, step := range drawn(d, c.First, d.below(50)+1) {
				r.do(step)
			}
			for _, x := range r.txns {
				x.Give()
			}
			r.txns = nil
			for _, step := range drawn(d, c.First, 12) {
				// The first one begins it; no other one does.
				if len(r.txns) > 0 && (step.kind == cBegin || step.kind == cCommit || step.kind == cGive) {
					continue
				}
				step.txn = 0
				r.do(step)
			}
			if s, e := r.txns[0].Commit(); e == api.ErrClash || e == api.ErrOver {
				t.Fatalf("%+v: %d, %v", c, s, e)
			}
		}
	}
}
