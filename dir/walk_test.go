package dir

import (
	"iter"
	"testing"

	"folio/api"
)

// some is a directory with keys of two types, one of them deleted at 6, one put anew at 7.
func some() *Dir {
	d := New()
	d.Put(key("B", "a"), 1, 1, true, row(one("n", "x", "y"), one("o", "z")))
	d.Put(key("A", "b"), 2, 1, true, row(one("n", "x")))
	d.Put(key("A", "a"), 3, 2, true, nil)
	d.Put(key("A", "c"), 4, 2, true, row(one("a", "1"), one("b", "2", "2")))
	d.Put(key("A", "c"), 6, 3, false, nil)
	d.Put(key("A", "b"), 7, 3, true, row(one("n", "w")))
	return d
}

// change does with a directory all that may be done.
func change(d *Dir) {
	d.Put(key("A", "0"), 20, 9, true, row(one("n", "new")))
	d.Put(key("A", "a"), 21, 9, false, nil)
	d.Put(key("A", "b"), 22, 9, true, row(one("n", "other")))
	d.Put(key("Z", "z"), 1, 9, true, nil)
	d.Prune(api.MaxStamp)
}

// A walk shows the directory as it stood when Walk was called, however often it is gone over, and whatever was done since: P7.1.
func TestWalkStands(t *testing.T) {
	for _, stamp := range []uint64{0, 1, 2, 3, 4, 5, 6, 7, 8, 19, 20, 25, api.MaxStamp} {
		d := some()
		want := walked(some().Walk(stamp))
		seq := d.Walk(stamp)
		change(d)
		for range 3 {
			if got := walked(seq); !sameFinds(got, want) {
				t.Errorf("Walk(%d) behind changes gives %#v; want %#v", stamp, got, want)
			}
		}
		// Changed in its midst.
		d = some()
		n := 0
		for k, v := range d.Walk(stamp) {
			if n == 0 {
				change(d)
			}
			if !sameFound(api.Found{Key: k, Version: v}, want[n]) {
				t.Errorf("Walk(%d) in the midst of changes gives %v %#v; want %#v", stamp, k, v, want[n])
			}
			n++
		}
		if n != len(want) {
			t.Errorf("Walk(%d) in the midst of changes gives %d; want %d", stamp, n, len(want))
		}
	}
}

// A walk may be stopped at any place, and begins anew each time: P7.1.
func TestWalkStops(t *testing.T) {
	seq := some().Walk(7)
	want := walked(seq)
	if len(want) != 3 {
		t.Fatalf("Walk(7) gives %#v; want three", want)
	}
	for stop := range len(want) {
		n := 0
		for k, v := range seq {
			if !sameFound(api.Found{Key: k, Version: v}, want[n]) {
				t.Errorf("number %d is %v %#v; want %#v", n, k, v, want[n])
			}
			if n == stop {
				break
			}
			n++
		}
		if n != stop {
			t.Errorf("stopped at %d, but it went on to %d", stop, n)
		}
	}
	// One within the other, each at its own place.
	n := 0
	for range seq {
		for k, v := range seq {
			if !sameFound(api.Found{Key: k, Version: v}, want[n%len(want)]) {
				t.Errorf("within another, number %d is %v %#v", n, k, v)
			}
			n++
		}
	}
	if n != len(want)*len(want) {
		t.Errorf("within another: %d; want %d", n, len(want)*len(want))
	}
}

// A walk is drawn from by hand as well: P7.1.
func TestWalkPulled(t *testing.T) {
	d := some()
	next, stop := iter.Pull2(d.Walk(5))
	defer stop()
	for i, want := range walked(some().Walk(5)) {
		k, v, ok := next()
		if !ok || !sameFound(api.Found{Key: k, Version: v}, want) {
			t.Errorf("number %d is %v %#v, %t; want %#v", i, k, v, ok, want)
		}
		change(d)
	}
	if k, v, ok := next(); ok {
		t.Errorf("more than all: %v %#v", k, v)
	}
}

// A walk's own memory isn't handed out: what is given again is as it was, whatever was done with what was given: P7.5 and R3.
func TestWalkMemory(t *testing.T) {
	d := some()
	seq := d.Walk(4)
	want := walked(some().Walk(4))
	for range 3 {
		n := 0
		for k, v := range seq {
			if !sameFound(api.Found{Key: k, Version: v}, want[n]) {
				t.Fatalf("number %d is %v %#v; want %#v", n, k, v, want[n])
			}
			spoil(v.Value)
			n++
		}
	}
	if got := walked(d.Walk(4)); !sameFinds(got, want) {
		t.Errorf("a walk hands out the directory's own memory: %#v", got)
	}
}
