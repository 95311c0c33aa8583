package snaps

import (
	"math"
	"testing"

	"folio/api"
)

// opens fails unless an Open answers just so.
func opens(t *testing.T, r *Registry, stamp uint64, id int, e api.Errno) {
	t.Helper()
	if n, got := r.Open(stamp); n != id || got != e {
		t.Errorf("Open(%d): %d, %v; want %d, %v", stamp, n, got, id, e)
	}
}

// closes fails unless a Close answers just so, and the snapshot is open no more then.
func closes(t *testing.T, r *Registry, id int, want bool) {
	t.Helper()
	if got := r.Close(id); got != want {
		t.Errorf("Close(%d): %v; want %v", id, got, want)
	}
	isOpen(t, r, id, 0, false)
}

// isOpen fails unless a Stamp answers just so.
func isOpen(t *testing.T, r *Registry, id int, stamp uint64, want bool) {
	t.Helper()
	if s, got := r.Stamp(id); s != stamp || got != want {
		t.Errorf("Stamp(%d): %d, %v; want %d, %v", id, s, got, stamp, want)
	}
}

// least fails unless a Least answers just so.
func least(t *testing.T, r *Registry, now, want uint64) {
	t.Helper()
	if got := r.Least(now); got != want {
		t.Errorf("Least(%d): %d; want %d", now, got, want)
	}
}

// raises fails unless a Raise answers just so, and the floor is as given then.
func raises(t *testing.T, r *Registry, f uint64, e api.Errno, floor uint64) {
	t.Helper()
	if got := r.Raise(f); got != e {
		t.Errorf("Raise(%d): %v; want %v", f, got, e)
	}
	if got := r.Floor(); got != floor {
		t.Errorf("Floor behind Raise(%d): %d; want %d", f, got, floor)
	}
}

// counts fails unless so many are open.
func counts(t *testing.T, r *Registry, want int) {
	t.Helper()
	if got := r.Count(); got != want {
		t.Errorf("Count: %d; want %d", got, want)
	}
}

func TestExample(t *testing.T) {
	r := New()
	opens(t, r, 5, 1, api.OK)
	opens(t, r, 3, 2, api.OK)
	opens(t, r, 5, 3, api.OK)
	least(t, r, 9, 3)
	least(t, r, 1, 1)
	raises(t, r, 4, api.ErrArg, 0)
	raises(t, r, 3, api.OK, 3)
	opens(t, r, 2, 0, api.ErrOld)
	closes(t, r, 2, true)
	closes(t, r, 2, false)
	least(t, r, 9, 5)
	raises(t, r, 2, api.ErrOld, 3)
	raises(t, r, 5, api.OK, 5)
	counts(t, r, 2)
	isOpen(t, r, 3, 5, true)
	opens(t, r, 7, 4, api.OK)
}

func TestNew(t *testing.T) {
	r := New()
	counts(t, r, 0)
	for _, id := range []int{math.MinInt, -1, 0, 1, 2, math.MaxInt} {
		closes(t, r, id, false)
	}
	for _, now := range []uint64{0, 1, 1 << 63, api.MaxStamp} {
		least(t, r, now, now)
	}
	raises(t, r, 0, api.OK, 0)
	opens(t, r, 0, 1, api.OK)
}

// TestIdsOfClosedOnes: no id comes twice, whichever are closed, and a refused Open takes none.
func TestIdsOfClosedOnes(t *testing.T) {
	r := New()
	opens(t, r, 4, 1, api.OK)
	closes(t, r, 1, true)
	opens(t, r, 4, 2, api.OK)
	opens(t, r, 4, 3, api.OK)
	closes(t, r, 2, true)
	raises(t, r, 4, api.OK, 4)
	for range 3 {
		opens(t, r, 3, 0, api.ErrOld)
	}
	counts(t, r, 1)
	opens(t, r, 4, 4, api.OK)
	for _, id := range []int{3, 4} {
		isOpen(t, r, id, 4, true)
		closes(t, r, id, true)
	}
	opens(t, r, 5, 5, api.OK)
	counts(t, r, 1)
}

func TestAtTheFloor(t *testing.T) {
	r := New()
	raises(t, r, 7, api.OK, 7)
	raises(t, r, 7, api.OK, 7)
	raises(t, r, 6, api.ErrOld, 7)
	raises(t, r, 0, api.ErrOld, 7)
	opens(t, r, 6, 0, api.ErrOld)
	opens(t, r, 0, 0, api.ErrOld)
	opens(t, r, 7, 1, api.OK)
	raises(t, r, 7, api.OK, 7)
	raises(t, r, 8, api.ErrArg, 7)
	closes(t, r, 1, true)
	raises(t, r, 8, api.OK, 8)
	least(t, r, 3, 3)
}

// TestRaiseOverMany: the floor rises just to the least that is open, wherever that one stands among the others.
func TestRaiseOverMany(t *testing.T) {
	for low := range 20 {
		r := New()
		for k := range 20 {
			stamp := uint64(60 + k)
			if k == low {
				stamp = 50
			}
			opens(t, r, stamp, k+1, api.OK)
		}
		raises(t, r, 51, api.ErrArg, 0)
		raises(t, r, api.MaxStamp, api.ErrArg, 0)
		raises(t, r, 49, api.OK, 49)
		least(t, r, 51, 50)
		least(t, r, 50, 50)
		least(t, r, 49, 49)
		raises(t, r, 50, api.OK, 50)
		raises(t, r, 51, api.ErrArg, 50)
		raises(t, r, 49, api.ErrOld, 50)
		closes(t, r, low+1, true)
		raises(t, r, 51, api.OK, 51)
		counts(t, r, 19)
	}
}

// TestGreatStamps: stamps are numbers without a sign, to their very end.
func TestGreatStamps(t *testing.T) {
	r := New()
	opens(t, r, api.MaxStamp, 1, api.OK)
	opens(t, r, 1<<63, 2, api.OK)
	least(t, r, api.MaxStamp, 1<<63)
	least(t, r, 1<<63-1, 1<<63-1)
	raises(t, r, 1<<63+1, api.ErrArg, 0)
	raises(t, r, 1<<63, api.OK, 1<<63)
	opens(t, r, 1<<63-1, 0, api.ErrOld)
	raises(t, r, 1, api.ErrOld, 1<<63)
	closes(t, r, 2, true)
	least(t, r, api.MaxStamp, api.MaxStamp)
	raises(t, r, api.MaxStamp, api.OK, api.MaxStamp)
	opens(t, r, api.MaxStamp-1, 0, api.ErrOld)
	opens(t, r, api.MaxStamp, 3, api.OK)
	raises(t, r, api.MaxStamp, api.OK, api.MaxStamp)
	raises(t, r, 0, api.ErrOld, api.MaxStamp)
	isOpen(t, r, 1, api.MaxStamp, true)
	counts(t, r, 2)
}

func TestRegistriesAreApart(t *testing.T) {
	a, b := New(), New()
	opens(t, a, 5, 1, api.OK)
	raises(t, a, 5, api.OK, 5)
	counts(t, b, 0)
	isOpen(t, b, 1, 0, false)
	least(t, b, 9, 9)
	raises(t, b, 2, api.OK, 2)
	opens(t, b, 3, 1, api.OK)
	closes(t, b, 1, true)
	isOpen(t, a, 1, 5, true)
}

func TestNil(t *testing.T) {
	var r *Registry
	for _, stamp := range []uint64{0, 1, 5, 1 << 63, api.MaxStamp} {
		opens(t, r, stamp, 0, api.ErrArg)
		raises(t, r, stamp, api.ErrArg, 0)
		least(t, r, stamp, stamp)
	}
	for _, id := range []int{math.MinInt, -1, 0, 1, math.MaxInt} {
		closes(t, r, id, false)
	}
	counts(t, r, 0)
}
