package past

import (
	"math"
	"slices"
	"strings"
	"testing"

	"folio/api"
	"folio/dir"
)

func one(name string, texts ...string) api.Field { return api.Field{Name: name, Texts: texts} }
func row(fields ...api.Field) []api.Field        { return fields }
func key(typ, id string) api.Key                 { return api.Key{Type: typ, ID: id} }
func sameField(a, b api.Field) bool              { return a.Name == b.Name && slices.Equal(a.Texts, b.Texts) }

func sameVersion(a, b api.Version) bool {
	return a.Number == b.Number && a.Stamp == b.Stamp && a.Tick == b.Tick && a.Live == b.Live && slices.EqualFunc(a.Value, b.Value, sameField)
}

func sameFound(a, b api.Found) bool   { return a.Key == b.Key && sameVersion(a.Version, b.Version) }
func sameFinds(a, b []api.Found) bool { return slices.EqualFunc(a, b, sameFound) }

// The calls that a question may be put to.
const (
	callAt = iota
	callFind
	callHistory
	callSince
	callNumber
)

// question is a call with its arguments, but for the directory and the window.
type question struct {
	call  int
	stamp uint64
	k     api.Key
	typ   string
	p     []api.Term
	n     int
}

// with are versions with their key; the zero version, which no key ever has, is none.
func with(k api.Key, versions ...api.Version) []api.Found {
	var l []api.Found
	for _, v := range versions {
		if !sameVersion(v, api.Version{}) {
			l = append(l, api.Found{Key: k, Version: v})
		}
	}
	return l
}

// ask puts a question, and gives all answers one form.
func ask(d *dir.Dir, w Window, q question) ([]api.Found, api.Errno) {
	switch q.call {
	case callAt:
		v, e := At(d, w, q.stamp, q.k)
		return with(q.k, v), e
	case callFind:
		return Find(d, w, q.stamp, q.typ, q.p)
	case callHistory:
		l, e := History(d, w, q.k, q.stamp)
		return with(q.k, l...), e
	case callSince:
		return Since(d, w, q.typ, q.stamp)
	}
	v, e := Number(d, w, q.k, q.n)
	return with(q.k, v), e
}

// world is what is asked about.
type world struct {
	keys   []api.Key
	types  []string
	stamps []uint64
	preds  [][]api.Term
	most   int
}

// questions are all calls at all of a world's arguments.
func (w world) questions() []question {
	var l []question
	for _, k := range w.keys {
		for _, s := range w.stamps {
			l = append(l, question{call: callAt, stamp: s, k: k}, question{call: callHistory, stamp: s, k: k})
		}
		for n := range w.most + 1 {
			l = append(l, question{call: callNumber, k: k, n: n})
		}
		for _, n := range []int{math.MinInt, -1, math.MaxInt} {
			l = append(l, question{call: callNumber, k: k, n: n})
		}
	}
	for _, typ := range w.types {
		for _, s := range w.stamps {
			l = append(l, question{call: callSince, stamp: s, typ: typ})
			for _, p := range w.preds {
				l = append(l, question{call: callFind, stamp: s, typ: typ, p: p})
			}
		}
	}
	return l
}

// windows are all windows of a world's stamps.
func (w world) windows() []Window {
	var l []Window
	for _, floor := range w.stamps {
		for _, snap := range w.stamps {
			l = append(l, Window{Floor: floor, Snap: snap})
		}
	}
	return l
}

// numbers are the numbers of what was told.
func numbers(l []api.Found) []int {
	var out []int
	for _, f := range l {
		out = append(out, f.Version.Number)
	}
	return out
}

// tells fails unless a question is answered by the versions of these numbers, and this error.
func tells(t *testing.T, d *dir.Dir, w Window, q question, want api.Errno, these ...int) {
	t.Helper()
	if l, e := ask(d, w, q); e != want || !slices.Equal(numbers(l), these) {
		t.Errorf("%v, %+v: %v, %d; want %v, %d", w, q, numbers(l), e, these, want)
	}
}

// three is A/a with the versions 1 (stamp 2), 2 (stamp 5), 3 (stamp 9).
func three() (*dir.Dir, api.Key) {
	d, k := dir.New(), key("A", "a")
	for i, s := range []uint64{2, 5, 9} {
		d.Put(k, s, int64(i)+7, true, row(one("n", "x"), one("o", "y", "z")))
	}
	return d, k
}

// The chapter's examples, in their order, are P14.1.
func TestExamples(t *testing.T) {
	d, k := three()
	w := Window{Floor: 3, Snap: 7}
	tells(t, d, w, question{call: callAt, k: k, stamp: 2}, api.ErrOld)
	tells(t, d, w, question{call: callAt, k: k, stamp: 3}, api.OK, 1)
	tells(t, d, w, question{call: callAt, k: k, stamp: 6}, api.OK, 2)
	tells(t, d, w, question{call: callAt, k: k, stamp: 99}, api.OK, 2)
	tells(t, d, w, question{call: callHistory, k: k, stamp: 3}, api.OK, 2)
	tells(t, d, w, question{call: callHistory, k: k, stamp: 2}, api.ErrOld)
	tells(t, d, w, question{call: callNumber, k: k, n: 1}, api.OK, 1)
	tells(t, d, w, question{call: callNumber, k: k, n: 3}, api.ErrNone)
	tells(t, d, w, question{call: callNumber, k: k, n: 0}, api.ErrArg)
	if n := d.Prune(6); n != 1 {
		t.Fatalf("Prune(6) = %d; want 1", n)
	}
	tells(t, d, w, question{call: callNumber, k: k, n: 1}, api.ErrOld)
	w.Floor = 6
	tells(t, d, w, question{call: callAt, k: k, stamp: 6}, api.OK, 2)
	tells(t, d, w, question{call: callHistory, k: k, stamp: 6}, api.OK)
}

// A version is told whole, with all that was put: P14.1.
func TestWhole(t *testing.T) {
	d, k := three()
	want := api.Found{Key: k, Version: api.Version{Number: 2, Stamp: 5, Tick: 8, Live: true, Value: row(one("n", "x"), one("o", "y", "z"))}}
	for _, q := range []question{
		{call: callAt, k: k, stamp: 6}, {call: callNumber, k: k, n: 2}, {call: callHistory, k: k, stamp: 3},
		{call: callFind, typ: "A", stamp: 6}, {call: callSince, typ: "A", stamp: 3},
	} {
		if l, e := ask(d, Window{Floor: 3, Snap: 7}, q); e != api.OK || len(l) != 1 || !sameFound(l[0], want) {
			t.Errorf("%+v: %#v, %d; want %#v", q, l, e, want)
		}
	}
}

// What is open is what is above the snapshot, whatever the floor: P14.1.
func TestOpen(t *testing.T) {
	for _, x := range []struct {
		snap, t uint64
		want    bool
	}{
		{0, 0, false}, {0, 1, true}, {7, 6, false}, {7, 7, false}, {7, 8, true}, {7, 0, false}, {0, api.MaxStamp, true},
		{api.MaxStamp, api.MaxStamp, false}, {api.MaxStamp - 1, api.MaxStamp, true}, {api.MaxStamp, 0, false}, {1 << 63, 1<<63 - 1, false}, {1<<63 - 1, 1 << 63, true},
	} {
		for _, floor := range []uint64{0, 3, 7, 9, api.MaxStamp} {
			if got := Open(Window{Floor: floor, Snap: x.snap}, x.t); got != x.want {
				t.Errorf("Open({%d %d}, %d) = %t", floor, x.snap, x.t, got)
			}
		}
	}
}

// The edges of the window: a read at the floor is answered, one just below it isn't; a version at the snapshot is seen, one just above it isn't: P14.1.
func TestEdges(t *testing.T) {
	d, k := three()
	for _, x := range []struct {
		floor, snap, stamp uint64
		e                  api.Errno
		visible            []int // by At and Find; none is ErrNone for At
		above              []int // by History and Since
	}{
		{0, 9, 0, api.OK, nil, []int{1, 2, 3}}, {0, 9, 1, api.OK, nil, []int{1, 2, 3}}, {0, 9, 2, api.OK, []int{1}, []int{2, 3}},
		{0, 9, 9, api.OK, []int{3}, nil}, {0, 8, 9, api.OK, []int{2}, nil}, {0, 8, 2, api.OK, []int{1}, []int{2}}, {0, 5, 2, api.OK, []int{1}, []int{2}},
		{0, 4, 2, api.OK, []int{1}, nil}, {0, 1, 99, api.OK, nil, nil}, {0, 1, 0, api.OK, nil, nil}, {0, 0, 0, api.OK, nil, nil},
		{5, 9, 4, api.ErrOld, nil, nil}, {5, 9, 5, api.OK, []int{2}, []int{3}}, {5, 9, 0, api.ErrOld, nil, nil},
		// A floor above the snapshot: what is at the floor or above is answered by what the snapshot shows.
		{6, 2, 6, api.OK, []int{1}, nil}, {6, 2, 5, api.ErrOld, nil, nil}, {9, 1, 10, api.OK, nil, nil},
		{api.MaxStamp, 5, api.MaxStamp, api.OK, []int{2}, nil}, {api.MaxStamp, 5, api.MaxStamp - 1, api.ErrOld, nil, nil}, {0, api.MaxStamp, api.MaxStamp, api.OK, []int{3}, nil},
	} {
		w := Window{Floor: x.floor, Snap: x.snap}
		at := x.e
		if x.e == api.OK && len(x.visible) == 0 {
			at = api.ErrNone
		}
		tells(t, d, w, question{call: callAt, k: k, stamp: x.stamp}, at, x.visible...)
		tells(t, d, w, question{call: callFind, typ: "A", stamp: x.stamp}, x.e, x.visible...)
		tells(t, d, w, question{call: callHistory, k: k, stamp: x.stamp}, x.e, x.above...)
		tells(t, d, w, question{call: callSince, typ: "A", stamp: x.stamp}, x.e, x.above...)
	}
}

// A deleted one is told by At, History, Since and Number, and isn't found: P14.1.
func TestDeleted(t *testing.T) {
	d, k := dir.New(), key("A", "a")
	d.Put(k, 2, 1, true, row(one("n", "x")))
	d.Put(k, 4, 3, false, nil)
	d.Put(k, 6, 5, true, nil)
	w := Window{Floor: 1, Snap: 5}
	for _, stamp := range []uint64{4, 5, 6, 99} {
		tells(t, d, w, question{call: callAt, k: k, stamp: stamp}, api.OK, 2)
		tells(t, d, w, question{call: callFind, typ: "A", stamp: stamp}, api.OK)
	}
	if v, e := At(d, w, 4, k); e != api.OK || !sameVersion(v, api.Version{Number: 2, Stamp: 4, Tick: 3}) {
		t.Errorf("At(4) = %#v, %d", v, e)
	}
	tells(t, d, w, question{call: callHistory, k: k, stamp: 1}, api.OK, 1, 2)
	tells(t, d, w, question{call: callSince, typ: "A", stamp: 2}, api.OK, 2)
	tells(t, d, w, question{call: callNumber, k: k, n: 2}, api.OK, 2)
}

// A number is told up to the snapshot, whatever the floor; it is old if it went, and none if it never was or is above the snapshot: P14.1.
func TestNumber(t *testing.T) {
	for _, floor := range []uint64{0, 3, 9, 10, api.MaxStamp} {
		for _, x := range []struct {
			prune, snap uint64
			want        []api.Errno // of the numbers 1, 2, 3, 4
		}{
			{0, 9, []api.Errno{api.OK, api.OK, api.OK, api.ErrNone}}, {0, 8, []api.Errno{api.OK, api.OK, api.ErrNone, api.ErrNone}},
			{0, 5, []api.Errno{api.OK, api.OK, api.ErrNone, api.ErrNone}}, {0, 4, []api.Errno{api.OK, api.ErrNone, api.ErrNone, api.ErrNone}},
			{0, 0, []api.Errno{api.ErrNone, api.ErrNone, api.ErrNone, api.ErrNone}}, {5, api.MaxStamp, []api.Errno{api.ErrOld, api.OK, api.OK, api.ErrNone}},
			{5, 5, []api.Errno{api.ErrOld, api.OK, api.ErrNone, api.ErrNone}}, {5, 4, []api.Errno{api.ErrOld, api.ErrNone, api.ErrNone, api.ErrNone}},
			{9, 9, []api.Errno{api.ErrOld, api.ErrOld, api.OK, api.ErrNone}}, {9, 8, []api.Errno{api.ErrOld, api.ErrOld, api.ErrNone, api.ErrNone}},
			{9, 0, []api.Errno{api.ErrOld, api.ErrOld, api.ErrNone, api.ErrNone}},
		} {
			d, k := three()
			d.Prune(x.prune)
			w := Window{Floor: floor, Snap: x.snap}
			for i, e := range x.want {
				var these []int
				if e == api.OK {
					these = []int{i + 1}
				}
				tells(t, d, w, question{call: callNumber, k: k, n: i + 1}, e, these...)
			}
			tells(t, d, w, question{call: callNumber, k: k, n: math.MaxInt}, api.ErrNone)
			for _, n := range []int{0, -1, math.MinInt} {
				tells(t, d, w, question{call: callNumber, k: k, n: n}, api.ErrArg)
				tells(t, d, w, question{call: callNumber, k: key("", "x"), n: n}, api.ErrArg)
			}
			tells(t, d, w, question{call: callNumber, k: key("A", "b"), n: 1}, api.ErrNone)
		}
	}
}

// strange are a directory's keys that may not be, and such that aren't there; types likewise; predicates of all kinds.
func strange() world {
	long := strings.Repeat("A", api.MaxName+1)
	has := api.Term{Field: "n", Op: api.OpHas}
	return world{
		keys:   []api.Key{{}, key("A", ""), key("", "a"), key("a", "a"), key("A", "b"), key("Aa", "a"), key("A/", "a"), key("A", "\xff"), key(long, long)},
		types:  []string{"", "B", "a", "Aa", "A/a", "\xff", long},
		stamps: []uint64{0, 1, 2, 5, 8, 9, api.MaxStamp - 1, api.MaxStamp},
		preds:  [][]api.Term{nil, {}, {has}, {{}}, {{Field: "", Op: api.OpLacks}}, {{Field: "n", Op: 99}}, slices.Repeat([]api.Term{has}, api.MaxTerms+1)},
		most:   4,
	}
}

// Keys and types that may not be, or aren't there, have nothing; below the floor they are old: P14.1.
func TestStrange(t *testing.T) {
	d, _ := three()
	d.Prune(5)
	w := strange()
	for _, window := range w.windows() {
		for _, q := range w.questions() {
			want := api.OK
			switch {
			case q.call == callNumber && q.n < 1:
				want = api.ErrArg
			case q.call != callNumber && q.stamp < window.Floor:
				want = api.ErrOld
			case q.call == callAt || q.call == callNumber:
				want = api.ErrNone
			}
			tells(t, d, window, q, want)
		}
	}
}

// Predicates of all kinds, also such that may not be, take what pred.Match says: P14.1.
func TestFindPredicates(t *testing.T) {
	d := dir.New()
	d.Put(key("A", "b"), 1, 0, true, row(one("n", "x")))
	d.Put(key("A", "a"), 2, 0, true, row(one("n", "mrn|7")))
	d.Put(key("B", "a"), 2, 0, true, row(one("n", "x")))
	d.Put(key("A", "b"), 4, 0, true, row(one("n", "y")))
	term := func(op int, text string) []api.Term { return []api.Term{{Field: "n", Op: op, Text: text}} }
	for _, x := range []struct {
		stamp uint64
		p     []api.Term
		want  []string
	}{
		{3, nil, []string{"a", "b"}}, {3, []api.Term{}, []string{"a", "b"}}, {1, nil, []string{"b"}}, {9, nil, []string{"a", "b"}},
		{9, term(api.OpIs, "x"), []string{"b"}}, {9, term(api.OpIs, "y"), nil}, {3, term(api.OpIs, "7"), []string{"a"}}, {3, term(api.OpNot, "7"), []string{"b"}},
		{3, term(api.OpLacks, ""), nil}, {3, term(0, ""), nil}, {3, term(99, "x"), nil}, {3, slices.Repeat(term(api.OpHas, ""), api.MaxTerms+1), []string{"a", "b"}},
	} {
		l, e := Find(d, Window{Snap: 3}, x.stamp, "A", x.p)
		var got []string
		for _, f := range l {
			got = append(got, f.Key.Type+f.Key.ID)
		}
		var want []string
		for _, id := range x.want {
			want = append(want, "A"+id)
		}
		if e != api.OK || !slices.Equal(got, want) {
			t.Errorf("Find(%d, %v) has %q, %d; want %q", x.stamp, x.p, got, e, want)
		}
	}
}

// Since goes by stamp, then by key, up to the snapshot: P14.1.
func TestSinceOrder(t *testing.T) {
	d := dir.New()
	a, b, c := key("A", "a"), key("A", "b"), key("A", "c")
	d.Put(c, 1, 0, true, nil)
	d.Put(b, 2, 0, true, nil)
	d.Put(a, 2, 0, true, nil)
	d.Put(key("B", "a"), 2, 0, true, nil)
	d.Put(c, 2, 0, false, nil)
	d.Put(a, api.MaxStamp, 0, true, nil)
	d.Put(b, api.MaxStamp-1, 0, true, nil)
	all := []api.Key{c, a, b, c, b, a}
	for _, x := range []struct {
		snap, since uint64
		want        []api.Key
	}{
		{api.MaxStamp, 0, all}, {api.MaxStamp - 1, 0, all[:5]}, {api.MaxStamp - 2, 0, all[:4]}, {2, 0, all[:4]}, {1, 0, all[:1]}, {0, 0, nil},
		{api.MaxStamp, 1, all[1:]}, {2, 1, all[1:4]}, {api.MaxStamp, 2, all[4:]}, {api.MaxStamp, api.MaxStamp - 1, all[5:]}, {api.MaxStamp, api.MaxStamp, nil}, {2, 2, nil}, {1, 2, nil},
	} {
		l, e := Since(d, Window{Snap: x.snap}, "A", x.since)
		var got []api.Key
		for _, f := range l {
			got = append(got, f.Key)
		}
		if e != api.OK || !slices.Equal(got, x.want) {
			t.Errorf("Since(snap %d, %d) has %v, %d; want %v", x.snap, x.since, got, e, x.want)
		}
	}
}

// Of a nil directory all is ErrArg, whatever else is wrong, and nothing is told: P14.1, R1, R5 and R6.
func TestNil(t *testing.T) {
	w := strange()
	w.keys, w.types = append(w.keys, key("A", "a")), append(w.types, "A")
	for _, window := range w.windows() {
		for _, q := range w.questions() {
			tells(t, nil, window, q, api.ErrArg)
		}
	}
}
