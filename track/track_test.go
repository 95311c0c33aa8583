package track

import (
	"math"
	"slices"
	"testing"

	"folio/api"
)

var (
	x = api.Key{Type: "A", ID: "x"}
	y = api.Key{Type: "A", ID: "y"}
	z = api.Key{Type: "B", ID: "x"}
)

// read are marks of keys.
func read(keys ...api.Key) api.Marks { return api.Marks{Keys: keys} }

// write are changes of keys that are made, without fields.
func write(keys ...api.Key) []api.Change {
	var l []api.Change
	for _, k := range keys {
		l = append(l, api.Change{Key: k, IsLive: true})
	}
	return l
}

func one(name string, texts ...string) api.Field { return api.Field{Name: name, Texts: texts} }

func row(fields ...api.Field) []api.Field { return fields }

func is(field, text string) api.Term { return api.Term{Field: field, Op: api.OpIs, Text: text} }

func span(typ string, p ...api.Term) api.Range { return api.Range{Type: typ, Pred: p} }

func put(k api.Key, was, is []api.Field) api.Change {
	return api.Change{Key: k, WasLive: true, Was: was, IsLive: true, Is: is}
}

func sameRange(a, b api.Range) bool { return a.Type == b.Type && slices.Equal(a.Pred, b.Pred) }

func sameField(a, b api.Field) bool { return a.Name == b.Name && slices.Equal(a.Texts, b.Texts) }

func sameChange(a, b api.Change) bool {
	return a.Key == b.Key && a.WasLive == b.WasLive && a.IsLive == b.IsLive && slices.EqualFunc(a.Was, b.Was, sameField) && slices.EqualFunc(a.Is, b.Is, sameField)
}

func same(a, b api.Done) bool {
	return a.Snap == b.Snap && a.Stamp == b.Stamp && a.Out == b.Out && slices.Equal(a.Marks.Keys, b.Marks.Keys) &&
		slices.EqualFunc(a.Marks.Ranges, b.Marks.Ranges, sameRange) && slices.EqualFunc(a.Changes, b.Changes, sameChange)
}

// passes fails unless a Check answers OK and just so.
func passes(t *testing.T, r *Tracker, snap uint64, m api.Marks, l []api.Change, want bool) {
	t.Helper()
	if out, e := r.Check(snap, m, l); out != want || e != api.OK {
		t.Errorf("Check(%d, %v, %v): %v, %v; want %v, OK", snap, m, l, out, e, want)
	}
}

// clashes fails unless a Check answers ErrClash, and nothing beside it.
func clashes(t *testing.T, r *Tracker, snap uint64, m api.Marks, l []api.Change) {
	t.Helper()
	if out, e := r.Check(snap, m, l); out || e != api.ErrClash {
		t.Errorf("Check(%d, %v, %v): %v, %v; want false, %v", snap, m, l, out, e, api.ErrClash)
	}
}

// adds fails unless an Add answers just so.
func adds(t *testing.T, r *Tracker, d api.Done, want api.Errno) {
	t.Helper()
	if e := r.Add(d); e != want {
		t.Errorf("Add(%v): %v; want %v", d, e, want)
	}
}

// drops fails unless a Drop answers just so.
func drops(t *testing.T, r *Tracker, least uint64, want int) {
	t.Helper()
	if n := r.Drop(least); n != want {
		t.Errorf("Drop(%d): %d; want %d", least, n, want)
	}
}

// stands fails unless a tracker has this summary and these done ones.
func stands(t *testing.T, r *Tracker, summary uint64, want ...api.Done) {
	t.Helper()
	if got := r.Summary(); got != summary {
		t.Errorf("Summary: %d; want %d", got, summary)
	}
	if got := r.List(); !slices.EqualFunc(got, want, same) {
		t.Errorf("List: %v; want %v", got, want)
	}
	if got := r.Len(); got != len(want) {
		t.Errorf("Len: %d; want %d", got, len(want))
	}
}

// The chapter's examples.
func TestExamples(t *testing.T) {
	r, first := New(4), api.Done{Stamp: 1, Marks: read(x), Changes: write(y)}
	passes(t, r, 0, first.Marks, first.Changes, false)
	adds(t, r, first, api.OK)
	clashes(t, r, 0, read(y), write(x))
	passes(t, r, 0, read(y), nil, true)
	passes(t, r, 1, read(y), write(x), false)
	stands(t, r, 0, first)
	none := New(0)
	adds(t, none, first, api.OK)
	stands(t, none, 1)
	clashes(t, none, 0, api.Marks{}, nil)
}

func TestNewOne(t *testing.T) {
	for _, most := range []int{-1, 0, 1, api.MaxTracked} {
		r := New(most)
		stands(t, r, 0)
		for _, snap := range []uint64{0, 1, 1 << 63, api.MaxStamp} {
			passes(t, r, snap, read(x, y), write(x, y), false)
			drops(t, r, snap, 0)
		}
		stands(t, r, 0)
		adds(t, r, api.Done{}, api.OK)
	}
}

// A tracker keeps as many as it was made for: none below 0, MaxTracked above that.
func TestMost(t *testing.T) {
	for most, want := range map[int]int{math.MinInt: 0, -1: 0, 0: 0, 1: 1, 2: 2, 63: 63, 64: 64, 65: 64, 1 << 20: 64, math.MaxInt: 64} {
		r := New(most)
		for n := range 3 * api.MaxTracked {
			adds(t, r, api.Done{Stamp: uint64(n + 1)}, api.OK)
			if got, so := r.Len(), min(n+1, want); got != so {
				t.Fatalf("New(%d), behind %d Adds: Len %d; want %d", most, n+1, got, so)
			}
			if got, so := r.Summary(), uint64(max(0, n+1-want)); got != so {
				t.Fatalf("New(%d), behind %d Adds: Summary %d; want %d", most, n+1, got, so)
			}
		}
		for i, d := range r.List() {
			if so := uint64(3*api.MaxTracked - want + 1 + i); d.Stamp != so {
				t.Fatalf("New(%d): List has the stamp %d at %d; want %d", most, d.Stamp, i, so)
			}
		}
	}
}

// It clashes below the summary, whatever it has read and written, and not at it.
func TestBelowTheSummary(t *testing.T) {
	r := New(1)
	adds(t, r, api.Done{Stamp: 3}, api.OK)
	adds(t, r, api.Done{Stamp: 5}, api.OK)
	stands(t, r, 3, api.Done{Stamp: 5})
	clashes(t, r, 2, api.Marks{}, nil)
	clashes(t, r, 0, read(x), write(y))
	passes(t, r, 3, api.Marks{}, nil, false)
	drops(t, r, 9, 1)
	stands(t, r, 3)
	clashes(t, r, 2, api.Marks{}, nil)
	passes(t, r, 3, read(x), write(x), false)
}

// It clashes if it points at one that has Out, also if nobody points at it; that one's Out means nothing if it doesn't point at it.
func TestPointsAtOut(t *testing.T) {
	r := New(4)
	adds(t, r, api.Done{Stamp: 2, Out: true, Marks: read(z), Changes: write(x)}, api.OK)
	adds(t, r, api.Done{Stamp: 3, Changes: write(y)}, api.OK)
	clashes(t, r, 1, read(x), nil)
	clashes(t, r, 1, read(y, x), write(y))
	passes(t, r, 1, read(y), write(y), true)
	passes(t, r, 1, read(z), write(x), false)
	passes(t, r, 1, api.Marks{}, write(z), false)
	passes(t, r, 2, read(x), nil, false)
	passes(t, r, 2, read(x, y), nil, true)
}

// It clashes if it points at one, and one points at it: the same one or another, in either order; one of both alone is no clash.
func TestPointsBothWays(t *testing.T) {
	reads, writes, other := api.Done{Marks: read(x)}, api.Done{Changes: write(y)}, api.Done{Marks: read(z), Changes: write(z)}
	for _, l := range [][]api.Done{{reads, writes, other}, {other, writes, reads}, {writes, other, reads}} {
		r := New(4)
		for i, d := range l {
			d.Stamp = uint64(4 + i)
			adds(t, r, d, api.OK)
		}
		clashes(t, r, 3, read(y), write(x))
		clashes(t, r, 3, read(x, y), write(y, x))
		clashes(t, r, 3, read(z), write(z))
		clashes(t, r, 3, read(z), write(x))
		clashes(t, r, 3, read(y), write(z))
		passes(t, r, 3, read(y), write(y), true)
		passes(t, r, 3, read(x), write(x), false)
		passes(t, r, 3, read(y, z), nil, true)
		passes(t, r, 3, api.Marks{}, write(x, z), false)
		passes(t, r, 6, read(x, y, z), write(x, y, z), false)
	}
}

// What it runs beside has a stamp above its snapshot: that one's own snapshot means nothing.
func TestBeside(t *testing.T) {
	for _, snap := range []uint64{0, 4, 7, 8, api.MaxStamp} {
		r := New(2)
		adds(t, r, api.Done{Snap: snap, Stamp: 7, Marks: read(x), Changes: write(y)}, api.OK)
		adds(t, r, api.Done{Snap: snap, Stamp: 8, Changes: write(z)}, api.OK)
		clashes(t, r, 6, read(y), write(x))
		passes(t, r, 7, read(y), write(x), false)
		passes(t, r, 7, read(z), write(x), true)
		passes(t, r, 8, read(z), write(x), false)
	}
}

// Ranges are hit by what a change was and by what it is, on both sides.
func TestRanges(t *testing.T) {
	vx, vy := row(one("n", "x")), row(one("n", "y"))
	r, ranges := New(4), api.Marks{Ranges: []api.Range{span("A", is("n", "x"))}}
	adds(t, r, api.Done{Stamp: 1, Marks: ranges, Changes: []api.Change{put(z, vx, vy)}}, api.OK)
	for _, typ := range []string{"A", "B"} {
		for _, text := range []string{"x", "y", "z"} {
			m := api.Marks{Ranges: []api.Range{span(typ, is("n", text))}}
			passes(t, r, 0, m, nil, typ == "B" && text != "z")
		}
	}
	into, outOf, beside := put(y, vy, vx), put(y, vx, vy), put(y, vy, vy)
	all := api.Marks{Ranges: []api.Range{span("B")}}
	clashes(t, r, 0, all, []api.Change{beside, into})
	clashes(t, r, 0, all, []api.Change{outOf})
	passes(t, r, 0, all, []api.Change{beside}, true)
	passes(t, r, 0, all, []api.Change{{Key: y, Was: vx, Is: vx}}, true)
}

// A stamp below that of the one that was added last is old, also where that one is gone; the same stamp isn't.
func TestAddOld(t *testing.T) {
	for _, most := range []int{0, 1, 4} {
		for _, drop := range []bool{false, true} {
			r := New(most)
			adds(t, r, api.Done{Stamp: 5}, api.OK)
			if drop {
				r.Drop(api.MaxStamp)
			}
			list, summary := r.List(), r.Summary()
			adds(t, r, api.Done{Stamp: 4, Out: true, Marks: read(x), Changes: write(x)}, api.ErrOld)
			adds(t, r, api.Done{Snap: 9}, api.ErrOld)
			stands(t, r, summary, list...)
			adds(t, r, api.Done{Stamp: 5, Marks: read(y)}, api.OK)
			adds(t, r, api.Done{Stamp: 4}, api.ErrOld)
			adds(t, r, api.Done{Stamp: 6}, api.OK)
			adds(t, r, api.Done{Stamp: 5}, api.ErrOld)
		}
	}
}

// Drop takes those at its stamp too, and leaves the summary; Adds go on behind it with room for as many.
func TestDrop(t *testing.T) {
	r := New(3)
	for stamp := range uint64(5) {
		adds(t, r, api.Done{Stamp: stamp + 1}, api.OK)
	}
	stands(t, r, 2, api.Done{Stamp: 3}, api.Done{Stamp: 4}, api.Done{Stamp: 5})
	drops(t, r, 0, 0)
	drops(t, r, 2, 0)
	drops(t, r, 3, 1)
	drops(t, r, 3, 0)
	stands(t, r, 2, api.Done{Stamp: 4}, api.Done{Stamp: 5})
	adds(t, r, api.Done{Stamp: 5}, api.OK)
	stands(t, r, 2, api.Done{Stamp: 4}, api.Done{Stamp: 5}, api.Done{Stamp: 5})
	adds(t, r, api.Done{Stamp: 8}, api.OK)
	stands(t, r, 4, api.Done{Stamp: 5}, api.Done{Stamp: 5}, api.Done{Stamp: 8})
	drops(t, r, 7, 2)
	drops(t, r, api.MaxStamp, 1)
	stands(t, r, 4)
	adds(t, r, api.Done{Stamp: 8}, api.OK)
	stands(t, r, 4, api.Done{Stamp: 8})
}

// Stamps are numbers without a sign, to their very end.
func TestGreatStamps(t *testing.T) {
	r := New(2)
	half, end := api.Done{Stamp: 1 << 63, Changes: write(x)}, api.Done{Stamp: api.MaxStamp, Changes: write(y)}
	adds(t, r, half, api.OK)
	adds(t, r, end, api.OK)
	adds(t, r, api.Done{Stamp: api.MaxStamp - 1}, api.ErrOld)
	passes(t, r, 0, read(x), nil, true)
	passes(t, r, 1<<63-1, read(x), nil, true)
	passes(t, r, 1<<63, read(x), nil, false)
	passes(t, r, api.MaxStamp-1, read(y), nil, true)
	passes(t, r, api.MaxStamp, read(x, y), write(x, y), false)
	adds(t, r, end, api.OK)
	stands(t, r, 1<<63, end, end)
	clashes(t, r, 1<<63-1, api.Marks{}, nil)
	adds(t, r, end, api.OK)
	stands(t, r, api.MaxStamp, end, end)
	clashes(t, r, api.MaxStamp-1, api.Marks{}, nil)
	passes(t, r, api.MaxStamp, read(y), write(y), false)
	drops(t, r, api.MaxStamp-1, 0)
	drops(t, r, api.MaxStamp, 2)
	stands(t, r, api.MaxStamp)
}

func TestTrackersAreApart(t *testing.T) {
	a, b := New(1), New(1)
	adds(t, a, api.Done{Stamp: 5, Changes: write(x)}, api.OK)
	adds(t, a, api.Done{Stamp: 6, Changes: write(x)}, api.OK)
	stands(t, b, 0)
	passes(t, b, 0, read(x), nil, false)
	adds(t, b, api.Done{Stamp: 1}, api.OK)
	drops(t, b, 9, 1)
	stands(t, a, 5, api.Done{Stamp: 6, Changes: write(x)})
}

func TestNil(t *testing.T) {
	var r *Tracker
	for _, stamp := range []uint64{0, 1, 1 << 63, api.MaxStamp} {
		for _, l := range [][]api.Change{nil, write(x)} {
			if out, e := r.Check(stamp, read(x), l); out || e != api.ErrArg {
				t.Error("Check of nil:", out, e)
			}
			adds(t, r, api.Done{Stamp: stamp, Changes: l}, api.ErrArg)
		}
		drops(t, r, stamp, 0)
		stands(t, r, 0)
	}
}
