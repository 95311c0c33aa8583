package store

import (
	"slices"
	"testing"

	"folio/api"
)

// questions are what P15.2 speaks of: Reads and Scans, and Ats and Finds at the snapshot and below.
func questions(snap uint64) []call {
	var l []call
	for _, k := range []api.Key{key("A", "a"), key("A", "b"), key("A", "c"), key("B", "a")} {
		l = append(l, call{kind: cRead, key: k})
		for back := range uint64(6) {
			l = append(l, call{kind: cAt, key: k, at: snap - min(back, snap)})
		}
	}
	for _, typ := range []string{"A", "B"} {
		for _, p := range [][]api.Term{nil, terms(is("n", "x"))} {
			l = append(l, call{kind: cScan, typ: typ, pred: p})
			for back := range uint64(6) {
				l = append(l, call{kind: cFind, typ: typ, pred: p, at: snap - min(back, snap)})
			}
		}
	}
	return l
}

// asked is what a transaction answers to all of them.
func asked(x *Txn) []told {
	r := &real{txns: []*Txn{x}}
	var l []told
	for _, q := range questions(x.Snap()) {
		l = append(l, r.do(q))
	}
	return l
}

// writesOf are drawn writes, as they are done by the transaction with the number 0.
func writesOf(d *draw) []call {
	var l []call
	for range d.below(6) {
		l = append(l, call{kind: pick(d, []int{cPut, cPut, cDelete, cDrop}), key: pick(d, drawnKeys()), value: pick(d, drawnValues())})
	}
	return l
}

// watcher begins a transaction that writes.
func watcher(s *Store, writes []call) *Txn {
	r := &real{store: s}
	r.do(call{kind: cBegin})
	for _, w := range writes {
		r.do(w)
	}
	return r.txns[0]
}

// What a transaction is told stays, whatever others commit and is vacuumed, and another one with its snapshot and its writes is told the same: P15.2.
func TestSnapshotsStay(t *testing.T) {
	d := &draw{seed: 152}
	for _, c := range drawnConfigs() {
		for range 30 {
			r := &real{store: made(t, c)}
			for _, step := range drawn(d, c.First, 40) {
				r.do(step)
			}
			writes := writesOf(d)
			x := watcher(r.store, writes)
			want := asked(x)
			for _, y := range r.txns {
				y.Give()
			}
			r.store.Vacuum()
			y := watcher(r.store, writes)
			r.txns = nil
			for i, step := range drawn(d, c.First, 60) {
				r.do(step)
				if i%10 != 9 {
					continue
				}
				for _, w := range []*Txn{x, y} {
					compareAsked(t, w, asked(w), want, r.store.Floor())
				}
			}
		}
	}
}

// compareAsked holds what a transaction answers against what it was; below the floor it must be ErrOld.
func compareAsked(t *testing.T, x *Txn, got, want []told, floor uint64) {
	t.Helper()
	for i, q := range questions(x.Snap()) {
		w := want[i]
		if (q.kind == cAt || q.kind == cFind) && q.at < floor {
			w = told{e: api.ErrOld}
		}
		if !sameTold(got[i], w) {
			t.Fatalf("%+v: %+v, not %+v", q, got[i], w)
		}
	}
}

// committed is all that is committed of the drawn keys at any of the drawn stamps.
func committed(s *Store, first uint64) []api.Found {
	var l []api.Found
	for _, k := range []api.Key{key("A", "a"), key("A", "b"), key("A", "c"), key("B", "a")} {
		for _, t := range drawnStamps(first) {
			if v, there := s.Visible(k, t); there {
				l = append(l, api.Found{Key: k, Version: v})
			}
		}
	}
	return l
}

// A commit puts all that is written there, at one stamp that is above all others, and nothing else; what was refused or given up, and all other calls, put nothing there: P15.4.
func TestAllOrNothing(t *testing.T) {
	d := &draw{seed: 154}
	for _, c := range drawnConfigs() {
		for range 30 {
			r := &real{store: made(t, c)}
			for _, step := range drawn(d, c.First, 60) {
				allOrNothing(t, r, step, c.First)
			}
		}
	}
}

// allOrNothing does a call and looks at what is there behind it.
func allOrNothing(t *testing.T, r *real, step call, first uint64) {
	t.Helper()
	s := r.store
	was, last, count, tick := committed(s, first), s.Last(), s.Count(), s.Tick(0)
	var changes []api.Change
	if step.kind == cCommit {
		changes = r.txns[step.txn].Changes()
	}
	got := r.do(step)
	if step.kind == cVacuum {
		return
	}
	if step.kind != cCommit || got.e != api.OK || len(changes) == 0 {
		if s.Last() != last || s.Count() != count || got.stamp != 0 || !slices.EqualFunc(committed(s, first), was, sameFound) {
			t.Fatalf("%+v: %+v has changed what is there", step, got)
		}
		return
	}
	if got.stamp != last+1 || s.Last() != got.stamp || s.Count() != count+len(changes) {
		t.Fatalf("%+v: %+v behind %d", step, got, last)
	}
	for _, c := range changes {
		v, _ := s.Visible(c.Key, got.stamp)
		before, _ := s.Visible(c.Key, got.stamp-1)
		want := api.Version{Number: before.Number + 1, Stamp: got.stamp, Tick: tick, Live: c.IsLive, Value: c.Is}
		if !sameVersion(v, want) {
			t.Fatalf("%+v: %v, not %v", step, v, want)
		}
	}
	now := slices.DeleteFunc(committed(s, first), func(f api.Found) bool { return f.Version.Stamp == got.stamp })
	left := slices.DeleteFunc(was, func(f api.Found) bool {
		// What is seen above the new stamp is what was put now.
		return slices.ContainsFunc(changes, func(c api.Change) bool { return c.Key == f.Key })
	})
	for _, f := range left {
		if !slices.ContainsFunc(now, func(o api.Found) bool { return sameFound(o, f) }) {
			t.Fatalf("%+v: %v is there no more", step, f)
		}
	}
}

// The floor is never above an open snapshot nor falls; a vacuum with nothing open brings it to the last stamp, and leaves one version of each key; none takes what is visible at the floor or above: P15.6.
func TestVacuum(t *testing.T) {
	d := &draw{seed: 156}
	for _, c := range drawnConfigs() {
		for range 30 {
			r := &real{store: made(t, c)}
			s, floor := r.store, uint64(0)
			for _, step := range drawn(d, c.First, 60) {
				was := committed(s, c.First)
				r.do(step)
				if s.Floor() < floor || step.kind != cVacuum && s.Floor() != floor || s.Floor() > s.Last() {
					t.Fatalf("%+v: the floor is %d behind %d, and the last stamp %d", step, s.Floor(), floor, s.Last())
				}
				floor = s.Floor()
				for _, x := range r.txns {
					if !x.Ended() && x.Snap() < floor {
						t.Fatalf("the floor %d is above %d", floor, x.Snap())
					}
				}
				if step.kind == cVacuum {
					staysAbove(t, s, c.First, was)
				}
			}
			for _, x := range r.txns {
				x.Give()
			}
			emptied(t, s)
		}
	}
}

// staysAbove looks whether what was visible at the floor or above still is.
func staysAbove(t *testing.T, s *Store, first uint64, was []api.Found) {
	t.Helper()
	now := committed(s, first)
	for _, f := range was {
		last, _ := s.Visible(f.Key, s.Floor())
		if f.Version.Stamp >= last.Stamp && !slices.ContainsFunc(now, func(o api.Found) bool { return sameFound(o, f) }) {
			t.Fatalf("%v is gone, the floor is %d", f, s.Floor())
		}
	}
}

// emptied does a vacuum of a store in which nothing is open.
func emptied(t *testing.T, s *Store) {
	t.Helper()
	keys, count := 0, s.Count()
	for _, k := range []api.Key{key("A", "a"), key("A", "b"), key("A", "c"), key("B", "a")} {
		if _, there := s.Visible(k, s.Last()); there {
			keys++
		}
	}
	f, n := s.Vacuum()
	if f != s.Last() || s.Floor() != f || s.Count() != keys || n != count-keys {
		t.Fatalf("Vacuum: %d, %d; there are %d versions of %d keys, and the last stamp is %d", f, n, s.Count(), keys, s.Last())
	}
	if f2, n2 := s.Vacuum(); f2 != f || n2 != 0 {
		t.Fatalf("Vacuum again: %d, %d", f2, n2)
	}
}
