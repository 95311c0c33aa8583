package track

import (
	"slices"
	"testing"

	"folio/api"
)

// What stands in the spare room of arguments, where a call must leave it.
var (
	spareKey    = api.Key{Type: "spare", ID: "spare"}
	spareTerm   = api.Term{Field: "spare", Op: 77, Text: "spare"}
	spareRange  = api.Range{Type: "spare", Pred: []api.Term{spareTerm}}
	spareField  = api.Field{Name: "spare", Texts: []string{"spare"}}
	spareChange = api.Change{Key: spareKey, IsLive: true, Is: []api.Field{spareField}}
)

// roomy is a list in new memory, with spare room.
func roomy[T any](l []T, spare T) []T {
	return append(append(make([]T, 0, len(l)+3), l...), spare, spare, spare)[:len(l)]
}

func roomyValue(v []api.Field) []api.Field {
	v = roomy(v, spareField)
	for i := range v {
		v[i].Texts = roomy(v[i].Texts, "spare")
	}
	return v
}

// roomyDone is a done one in new memory, with spare room in each of its lists.
func roomyDone(d api.Done) api.Done {
	d.Marks.Keys, d.Marks.Ranges, d.Changes = roomy(d.Marks.Keys, spareKey), roomy(d.Marks.Ranges, spareRange), roomy(d.Changes, spareChange)
	for i := range d.Marks.Ranges {
		d.Marks.Ranges[i].Pred = roomy(d.Marks.Ranges[i].Pred, spareTerm)
	}
	for i := range d.Changes {
		d.Changes[i].Was, d.Changes[i].Is = roomyValue(d.Changes[i].Was), roomyValue(d.Changes[i].Is)
	}
	return d
}

// spared says whether the spare room of a list that roomy made is as it was.
func spared[T any](l []T, spare T, same func(a, b T) bool) bool {
	return slices.EqualFunc(l[len(l):cap(l)], []T{spare, spare, spare}, same)
}

func equal[T comparable](a, b T) bool { return a == b }

func valueSpared(v []api.Field) bool {
	ok := spared(v, spareField, sameField)
	for _, f := range v {
		ok = ok && spared(f.Texts, "spare", equal)
	}
	return ok
}

// untouched fails unless a done one that roomyDone made of was is as it was, spare room too.
func untouched(t *testing.T, what string, d, was api.Done) {
	t.Helper()
	ok := same(d, was) && spared(d.Marks.Keys, spareKey, equal) && spared(d.Marks.Ranges, spareRange, sameRange) && spared(d.Changes, spareChange, sameChange)
	for _, r := range d.Marks.Ranges {
		ok = ok && spared(r.Pred, spareTerm, equal)
	}
	for _, c := range d.Changes {
		ok = ok && valueSpared(c.Was) && valueSpared(c.Is)
	}
	if !ok {
		t.Fatalf("%s has changed %v to %v", what, was, d)
	}
}

// fill writes over all of a list's memory, spare room too.
func fill[T any](l []T, with T) {
	l = l[:cap(l)]
	for i := range l {
		l[i] = with
	}
}

// spoilers write each over the memory of one of a done one's lists, spare room too.
func spoilers(d api.Done) []func() {
	l := []func(){
		func() { fill(d.Marks.Keys, z) },
		func() { fill(d.Marks.Ranges, span("spoilt")) },
		func() { fill(d.Changes, api.Change{Key: z}) },
	}
	for _, r := range d.Marks.Ranges[:cap(d.Marks.Ranges)] {
		l = append(l, func() { fill(r.Pred, is("spoilt", "spoilt")) })
	}
	for _, c := range d.Changes[:cap(d.Changes)] {
		for _, v := range [][]api.Field{c.Was, c.Is} {
			for _, f := range v[:cap(v)] {
				l = append(l, func() { fill(f.Texts, "spoilt") })
			}
			l = append(l, func() { fill(v, one("spoilt", "spoilt")) })
		}
	}
	return l
}

// spoil writes over all of a done one's memory, spare room too.
func spoil(d api.Done) {
	for _, f := range spoilers(d) {
		f()
	}
}

// full is a done one with something in each of its lists, in an order that no call has made.
func full() api.Done {
	return api.Done{
		Snap: 3, Stamp: 5, Out: true,
		Marks: api.Marks{Keys: []api.Key{y, x, y}, Ranges: []api.Range{span("C", is("n", "x"), is("m", "y")), span("A"), span("C", is("n", "x"), is("m", "y"))}},
		Changes: []api.Change{
			put(y, row(one("n", "x", "y"), one("m", "z")), row(one("n", "x"))),
			{Key: x, WasLive: true, Was: row(one("n", "x"))},
			{Key: y, Was: row(one("n", "y")), Is: row(one("m"))},
		},
	}
}

// later is another one behind full.
func later() api.Done {
	d := full()
	d.Stamp, d.Out = 6, false
	return d
}

// A done one is told just as it was handed in, in whatever order its lists stand.
func TestToldAsHandedIn(t *testing.T) {
	r := New(2)
	for range 3 {
		adds(t, r, full(), api.OK)
	}
	adds(t, r, later(), api.OK)
	stands(t, r, 5, full(), later())
}

// What is handed to Add is left as it is, spare room too, and not kept: R3.
func TestAddLeavesAndCopies(t *testing.T) {
	for _, most := range []int{0, 1, 4} {
		r := New(most)
		a, b, old := roomyDone(full()), roomyDone(later()), roomyDone(full())
		adds(t, r, a, api.OK)
		adds(t, r, b, api.OK)
		adds(t, r, old, api.ErrOld)
		untouched(t, "Add", a, full())
		untouched(t, "Add", b, later())
		untouched(t, "Add", old, full())
		spoil(a)
		spoil(b)
		spoil(old)
		want := []api.Done{full(), later()}
		stands(t, r, []uint64{6, 5, 0, 0, 0}[most], want[2-min(most, 2):]...)
		if most == 0 {
			continue
		}
		passes(t, r, 5, read(x), nil, true)
		clashes(t, r, 5, read(x), []api.Change{put(api.Key{Type: "C", ID: "a"}, nil, row(one("m", "y"), one("n", "x")))})
		passes(t, r, 5, read(x), []api.Change{put(z, nil, nil)}, true)
	}
}

// What is handed to Check is left as it is, spare room too, and changes nothing of the tracker, not later either.
func TestCheckLeaves(t *testing.T) {
	r := New(4)
	adds(t, r, full(), api.OK)
	adds(t, r, later(), api.OK)
	for snap := range uint64(8) {
		d := roomyDone(full())
		r.Check(snap, d.Marks, d.Changes)
		untouched(t, "Check", d, full())
		spoil(d)
		stands(t, r, 0, full(), later())
	}
}

// What List tells is new memory, spare room too; no two of its lists share any: R3.
func TestListIsApart(t *testing.T) {
	r := New(4)
	adds(t, r, full(), api.OK)
	adds(t, r, later(), api.OK)
	for range 2 {
		l := r.List()
		for _, d := range l {
			spoil(d)
		}
		fill(l, api.Done{Stamp: 77})
		stands(t, r, 0, full(), later())
	}
	for n := range spoilers(r.List()[0]) {
		l := r.List()
		first := spoilers(l[0])
		first[n]()
		if !same(l[1], later()) {
			t.Fatal("two done ones share memory:", l[1])
		}
	}
}

// spoilt is how many of a done one's lists aren't as they were; one that stands in another counts by itself alone.
func spoilt(d, was api.Done) int {
	n := 0
	count := func(ok bool) {
		if !ok {
			n++
		}
	}
	name := func(a, b api.Field) bool { return a.Name == b.Name }
	texts := func(v, was []api.Field) {
		count(slices.EqualFunc(v, was, name))
		for i := range min(len(v), len(was)) {
			count(v[i].Name != was[i].Name || slices.Equal(v[i].Texts, was[i].Texts))
		}
	}
	count(slices.Equal(d.Marks.Keys, was.Marks.Keys))
	count(slices.EqualFunc(d.Marks.Ranges, was.Marks.Ranges, func(a, b api.Range) bool { return a.Type == b.Type }))
	count(slices.EqualFunc(d.Changes, was.Changes, func(a, b api.Change) bool { return a.Key == b.Key && a.WasLive == b.WasLive }))
	for i, r := range d.Marks.Ranges {
		count(r.Type != was.Marks.Ranges[i].Type || slices.Equal(r.Pred, was.Marks.Ranges[i].Pred))
	}
	for i, c := range d.Changes {
		if c.Key == was.Changes[i].Key && c.WasLive == was.Changes[i].WasLive {
			texts(c.Was, was.Changes[i].Was)
			texts(c.Is, was.Changes[i].Is)
		}
	}
	return n
}

// knit is a done one whose lists share memory.
func knit() api.Done {
	p, texts := []api.Term{is("n", "x"), is("n", "y")}, []string{"x", "y"}
	v := row(one("n", texts...), one("o", texts...))
	return api.Done{
		Stamp:   5,
		Marks:   api.Marks{Keys: []api.Key{x, y}, Ranges: []api.Range{span("A", p...), span("C", p...), span("D", p[:1]...)}},
		Changes: []api.Change{put(x, v, v), put(y, v, v[:1])},
	}
}

// Lists that share memory where they are handed in share none where they are told.
func TestSharedWhereHandedIn(t *testing.T) {
	r, d, was := New(4), knit(), knit()
	adds(t, r, d, api.OK)
	adds(t, r, d, api.OK)
	for n := range spoilers(r.List()[0]) {
		l := r.List()
		spoilers(l[0])[n]()
		if got := spoilt(l[0], was); got != 1 {
			t.Errorf("what writes over one list, the one with the number %d, has spoilt %d", n, got)
		}
		if !same(l[1], was) {
			t.Error("two done ones share memory:", l[1])
		}
	}
	stands(t, r, 0, was, was)
}

// Nil lists and empty ones mean the same: R4.
func TestEmptyLists(t *testing.T) {
	r := New(4)
	empty := api.Done{Stamp: 1, Marks: api.Marks{Keys: []api.Key{}, Ranges: []api.Range{}}, Changes: []api.Change{}}
	adds(t, r, empty, api.OK)
	adds(t, r, api.Done{Stamp: 1}, api.OK)
	stands(t, r, 0, api.Done{Stamp: 1}, empty)
	passes(t, r, 0, empty.Marks, empty.Changes, false)
	adds(t, r, api.Done{Stamp: 2, Marks: api.Marks{Ranges: []api.Range{{Type: "A", Pred: []api.Term{}}}}, Changes: []api.Change{put(z, []api.Field{}, nil)}}, api.OK)
	clashes(t, r, 1, api.Marks{Ranges: []api.Range{{Type: "B"}}}, []api.Change{put(x, nil, []api.Field{})})
}
