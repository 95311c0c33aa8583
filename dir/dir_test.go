package dir

import (
	"iter"
	"math"
	"slices"
	"strings"
	"testing"

	"folio/api"
)

func one(name string, texts ...string) api.Field { return api.Field{Name: name, Texts: texts} }
func row(fields ...api.Field) []api.Field        { return fields }
func key(typ, id string) api.Key                 { return api.Key{Type: typ, ID: id} }
func sameField(a, b api.Field) bool              { return a.Name == b.Name && slices.Equal(a.Texts, b.Texts) }
func same(a, b []api.Field) bool                 { return slices.EqualFunc(a, b, sameField) }

func sameVersion(a, b api.Version) bool {
	return a.Number == b.Number && a.Stamp == b.Stamp && a.Tick == b.Tick && a.Live == b.Live && same(a.Value, b.Value)
}

func sameFound(a, b api.Found) bool { return a.Key == b.Key && sameVersion(a.Version, b.Version) }

func sameList(a, b []api.Version) bool { return slices.EqualFunc(a, b, sameVersion) }
func sameFinds(a, b []api.Found) bool  { return slices.EqualFunc(a, b, sameFound) }

// walked is all that an iterator gives.
func walked(seq iter.Seq2[api.Key, api.Version]) []api.Found {
	var l []api.Found
	for k, v := range seq {
		l = append(l, api.Found{Key: k, Version: v})
	}
	return l
}

// keysOf are the keys of what was found.
func keysOf(l []api.Found) []api.Key {
	var keys []api.Key
	for _, f := range l {
		keys = append(keys, f.Key)
	}
	return keys
}

// The chapter's examples, in their order, are P7.1.
func TestExamples(t *testing.T) {
	d := New()
	a, b := key("A", "a"), key("A", "b")
	put := func(k api.Key, stamp uint64, tick int64, live bool, v []api.Field, number int, want api.Errno) {
		t.Helper()
		if n, e := d.Put(k, stamp, tick, live, v); n != number || e != want {
			t.Errorf("Put(%v, %d, %d, %t, %q) = %d, %d; want %d, %d", k, stamp, tick, live, v, n, e, number, want)
		}
	}
	finds := func(what string, got []api.Found, want ...api.Found) {
		t.Helper()
		if !sameFinds(got, want) {
			t.Errorf("%s = %#v; want %#v", what, got, want)
		}
	}
	x, y := row(one("n", "x")), row(one("n", "y"))
	b1 := api.Found{Key: b, Version: api.Version{Number: 1, Stamp: 1, Live: true, Value: x}}
	a1 := api.Found{Key: a, Version: api.Version{Number: 1, Stamp: 2, Live: true, Value: y}}
	b2 := api.Found{Key: b, Version: api.Version{Number: 2, Stamp: 3, Tick: 1}}
	put(b, 1, 0, true, x, 1, api.OK)
	put(a, 2, 0, true, y, 1, api.OK)
	put(b, 3, 1, false, nil, 2, api.OK)
	put(key("a", "b"), 4, 0, true, nil, 0, api.ErrName)
	if l := d.Keys("A"); !slices.Equal(l, []api.Key{a, b}) {
		t.Errorf(`Keys("A") = %v`, l)
	}
	finds(`Scan("A", 2, none)`, d.Scan("A", 2, nil), a1, b1)
	finds(`Scan("A", 3, none)`, d.Scan("A", 3, nil), a1)
	finds(`Scan("A", 2, n=x)`, d.Scan("A", 2, []api.Term{{Field: "n", Op: api.OpIs, Text: "x"}}), b1)
	finds(`Log("A", 1)`, d.Log("A", 1), a1, b2)
	finds("Walk(2)", walked(d.Walk(2)), a1, b1)
	if n := d.Count(); n != 3 {
		t.Errorf("Count() = %d; want 3", n)
	}
	if n := d.Prune(3); n != 1 {
		t.Errorf("Prune(3) = %d; want 1", n)
	}
	if v, ok := d.First(b); !ok || !sameVersion(v, b2.Version) {
		t.Errorf("First(A/b) = %#v, %t; want number 2", v, ok)
	}
	if v, ok := d.Number(b, 1); ok || !sameVersion(v, api.Version{}) {
		t.Errorf("Number(A/b, 1) = %#v, %t; want none", v, ok)
	}
	if n := d.Count(); n != 2 {
		t.Errorf("Count() behind Prune = %d; want 2", n)
	}
}

// noKeys are keys that may not be.
func noKeys() []api.Key {
	long := strings.Repeat("A", api.MaxName+1)
	return []api.Key{
		key("", ""), key("A", ""), key("", "a"), key("a", "a"), key("A1", "a"), key("A/", "a"), key("A", "a/b"), key("A", "a b"), key("A", "\xff"),
		key("Ä", "a"), key(long, "a"), key("A", long),
	}
}

// Keys that may not be are ErrName, whatever else is wrong, and are never there: P7.1, R5 and R6.
func TestPutNames(t *testing.T) {
	wrong := row(one("a"))
	d := New()
	for _, k := range noKeys() {
		for _, live := range []bool{true, false} {
			for _, stamp := range []uint64{0, 1, api.MaxStamp} {
				for _, v := range [][]api.Field{nil, wrong} {
					if n, e := d.Put(k, stamp, 0, live, v); n != 0 || e != api.ErrName {
						t.Errorf("Put(%q, %d, 0, %t, %q) = %d, %d; want ErrName", k, stamp, live, v, n, e)
					}
				}
			}
		}
		absent(t, d, k)
	}
	if d.Count() != 0 || len(walked(d.Walk(api.MaxStamp))) != 0 {
		t.Errorf("there are %d versions; want none", d.Count())
	}
	for _, k := range []api.Key{key("A", "a"), key("Zz", "-"), key("A", "0.9"), key(strings.Repeat("A", api.MaxName), strings.Repeat(".", api.MaxName))} {
		if n, e := d.Put(k, 1, 0, true, nil); n != 1 || e != api.OK {
			t.Errorf("Put(%q, ..) = %d, %d; want 1", k, n, e)
		}
	}
}

// absent fails unless k isn't there.
func absent(t *testing.T, d *Dir, k api.Key) {
	t.Helper()
	for _, n := range []int{math.MinInt, -1, 0, 1, 2, math.MaxInt} {
		if v, ok := d.Number(k, n); ok || !sameVersion(v, api.Version{}) {
			t.Errorf("Number(%q, %d) = %#v, %t; want none", k, n, v, ok)
		}
	}
	for _, stamp := range []uint64{0, 1, api.MaxStamp} {
		if v, ok := d.At(k, stamp); ok || !sameVersion(v, api.Version{}) {
			t.Errorf("At(%q, %d) = %#v, %t; want none", k, stamp, v, ok)
		}
		if l := d.Since(k, stamp); len(l) != 0 {
			t.Errorf("Since(%q, %d) = %#v; want none", k, stamp, l)
		}
		if slices.Contains(keysOf(d.Scan(k.Type, stamp, nil)), k) || slices.Contains(keysOf(d.Log(k.Type, stamp)), k) || slices.Contains(keysOf(walked(d.Walk(stamp))), k) {
			t.Errorf("%q is found at %d", k, stamp)
		}
	}
	if v, ok := d.Last(k); ok || !sameVersion(v, api.Version{}) {
		t.Errorf("Last(%q) = %#v, %t; want none", k, v, ok)
	}
	if v, ok := d.First(k); ok || !sameVersion(v, api.Version{}) {
		t.Errorf("First(%q) = %#v, %t; want none", k, v, ok)
	}
	if slices.Contains(d.Keys(k.Type), k) {
		t.Errorf("Keys(%q) = %q", k.Type, d.Keys(k.Type))
	}
}

// A key whose first Put is refused isn't there; one that is there stays as it was: P7.1 and R6.
func TestPutRefused(t *testing.T) {
	d := New()
	k := key("A", "a")
	for _, x := range []struct {
		stamp uint64
		live  bool
		v     []api.Field
		want  api.Errno
	}{
		{0, true, nil, api.ErrOld}, {0, false, row(one("a")), api.ErrOld}, {1, true, row(one("a")), api.ErrField}, {1, true, row(one("b", "x"), one("a", "x")), api.ErrField}, {1, false, nil, api.ErrNone},
	} {
		if n, e := d.Put(k, x.stamp, 0, x.live, x.v); n != 0 || e != x.want {
			t.Errorf("Put(%v, %d, 0, %t, %q) = %d, %d; want 0, %d", k, x.stamp, x.live, x.v, n, e, x.want)
		}
		absent(t, d, k)
	}
	d.Put(k, 5, 1, true, row(one("a", "x")))
	was := d.Since(k, 0)
	for _, x := range []struct {
		stamp uint64
		live  bool
		v     []api.Field
		want  api.Errno
	}{
		{0, true, nil, api.ErrOld}, {5, true, nil, api.ErrOld}, {5, false, nil, api.ErrOld}, {4, true, row(one("a")), api.ErrOld}, {6, true, row(one("a")), api.ErrField},
	} {
		if n, e := d.Put(k, x.stamp, 9, x.live, x.v); n != 0 || e != x.want {
			t.Errorf("Put(%v, %d, 9, %t, %q) = %d, %d; want 0, %d", k, x.stamp, x.live, x.v, n, e, x.want)
		}
		if got := d.Since(k, 0); !sameList(got, was) || d.Count() != 1 {
			t.Errorf("a Put that was refused has changed %#v to %#v", was, got)
		}
	}
	d.Put(k, 6, 1, false, nil)
	if n, e := d.Put(k, 7, 0, false, nil); n != 0 || e != api.ErrNone {
		t.Errorf("Put of one that isn't live, twice = %d, %d; want ErrNone", n, e)
	}
	// Another key's stamps may be any, also those that are used.
	for i, stamp := range []uint64{1, 5, 6, api.MaxStamp} {
		if n, e := d.Put(key("A", "b"), stamp, 0, true, nil); n != i+1 || e != api.OK {
			t.Errorf("Put(A/b, %d, ..) = %d, %d; want %d", stamp, n, e, i+1)
		}
	}
}

// Keys stand by type, then by id, as bytes; types aren't mixed, also those that begin alike: P7.1.
func TestOrder(t *testing.T) {
	rising := []api.Key{
		key("A", "-"), key("A", "."), key("A", "0"), key("A", "1"), key("A", "10"), key("A", "2"), key("A", "A"), key("A", "Z"), key("A", "a"), key("A", "a-"), key("A", "aa"), key("A", "b"),
		key("AA", "a"), key("Aa", "-"), key("Aa", "a"), key("B", "a"), key("Z", "0"), key("ZA", "0"),
	}
	// Put in an order of their own, at one stamp.
	d := New()
	for i := range rising {
		d.Put(rising[i*7%len(rising)], 3, int64(i), true, nil)
	}
	if got := keysOf(walked(d.Walk(3))); !slices.Equal(got, rising) {
		t.Errorf("Walk(3) has %v; want %v", got, rising)
	}
	for _, typ := range []string{"A", "AA", "Aa", "B", "Z", "ZA", "", "C", "a", "AB", "A/a"} {
		var want []api.Key
		for _, k := range rising {
			if k.Type == typ {
				want = append(want, k)
			}
		}
		if got := d.Keys(typ); !slices.Equal(got, want) {
			t.Errorf("Keys(%q) = %v; want %v", typ, got, want)
		}
		if got := keysOf(d.Scan(typ, 3, nil)); !slices.Equal(got, want) {
			t.Errorf("Scan(%q, 3, none) has %v; want %v", typ, got, want)
		}
		if got := keysOf(d.Log(typ, 2)); !slices.Equal(got, want) {
			t.Errorf("Log(%q, 2) has %v; want %v", typ, got, want)
		}
		if len(d.Scan(typ, 2, nil)) != 0 || len(d.Log(typ, 3)) != 0 {
			t.Errorf("%q: more than there is at 2 or above 3", typ)
		}
	}
}

// A log goes by stamp first, also where the keys' order is another, up to the greatest stamps: P7.1.
func TestLogOrder(t *testing.T) {
	d := New()
	a, b, c := key("A", "a"), key("A", "b"), key("A", "c")
	d.Put(c, 1, 0, true, nil)
	d.Put(b, 1, 0, true, nil)
	d.Put(c, 2, 0, false, nil)
	d.Put(a, 2, 0, true, nil)
	d.Put(b, api.MaxStamp, 0, true, nil)
	d.Put(a, api.MaxStamp-1, 0, true, nil)
	d.Put(c, 1<<63, 0, true, nil)
	d.Put(key("B", "a"), 2, 0, true, nil)
	want := []api.Key{b, c, a, c, c, a, b}
	stamps := []uint64{1, 1, 2, 2, 1 << 63, api.MaxStamp - 1, api.MaxStamp}
	for at := range len(want) + 1 {
		// All above the stamp of the one ahead.
		since, from := uint64(0), 0
		if at > 0 {
			since = stamps[at-1]
		}
		for from < len(stamps) && stamps[from] <= since {
			from++
		}
		if got := keysOf(d.Log("A", since)); !slices.Equal(got, want[from:]) {
			t.Errorf("Log(A, %d) has %v; want %v", since, got, want[from:])
		}
	}
}

// Predicates may be any, also such that may not be; a value that isn't visible is never asked: P7.1 and P7.4.
func TestScanPredicates(t *testing.T) {
	d := New()
	d.Put(key("A", "a"), 1, 0, true, row(one("n", "x")))
	d.Put(key("A", "a"), 2, 0, true, row(one("n", "y")))
	d.Put(key("A", "b"), 1, 0, true, nil)
	d.Put(key("A", "c"), 1, 0, true, row(one("n", "x", "mrn|7")))
	d.Put(key("A", "c"), 2, 0, false, nil)
	term := func(op int, text string) []api.Term { return []api.Term{{Field: "n", Op: op, Text: text}} }
	for _, x := range []struct {
		t    uint64
		p    []api.Term
		want []string
	}{
		{1, nil, []string{"a", "b", "c"}}, {1, []api.Term{}, []string{"a", "b", "c"}}, {2, nil, []string{"a", "b"}}, {0, nil, nil},
		{1, term(api.OpIs, "x"), []string{"a", "c"}}, {2, term(api.OpIs, "x"), nil}, {2, term(api.OpIs, "y"), []string{"a"}}, {1, term(api.OpIs, "y"), nil},
		{1, term(api.OpIs, "7"), []string{"c"}}, {1, term(api.OpNot, "7"), []string{"a", "b"}}, {2, term(api.OpNot, "7"), []string{"a", "b"}},
		{1, term(api.OpLacks, ""), []string{"b"}}, {2, term(api.OpLacks, ""), []string{"b"}}, {api.MaxStamp, term(api.OpHas, ""), []string{"a"}},
		{1, append(term(api.OpIs, "x"), term(api.OpIs, "7")...), []string{"c"}}, {1, append(term(api.OpHas, ""), term(api.OpLacks, "")...), nil},
		{1, term(0, "x"), nil}, {1, term(99, ""), nil}, {1, []api.Term{{Field: "", Op: api.OpLacks}}, []string{"a", "b", "c"}},
		{1, slices.Repeat(term(api.OpHas, ""), api.MaxTerms+1), []string{"a", "c"}},
	} {
		var got []string
		for _, f := range d.Scan("A", x.t, x.p) {
			got = append(got, f.Key.ID)
		}
		if !slices.Equal(got, x.want) {
			t.Errorf("Scan(A, %d, %v) has %q; want %q", x.t, x.p, got, x.want)
		}
	}
}

// A nil directory answers ErrArg to Put, else nothing; Walk gives nothing: P7.5 and R1.
func TestNil(t *testing.T) {
	var d *Dir
	for _, k := range append(noKeys(), key("A", "a")) {
		for _, v := range [][]api.Field{nil, row(one("a"))} {
			if n, e := d.Put(k, 1, 0, true, v); n != 0 || e != api.ErrArg {
				t.Errorf("Put(%q, ..) of nil = %d, %d; want ErrArg", k, n, e)
			}
			if n, e := d.Put(k, 0, 0, false, v); n != 0 || e != api.ErrArg {
				t.Errorf("Put(%q, 0, ..) of nil = %d, %d; want ErrArg", k, n, e)
			}
		}
		absent(t, d, k)
	}
	if len(d.Keys("A")) != 0 || len(d.Scan("A", 1, nil)) != 0 || len(d.Log("A", 0)) != 0 || d.Count() != 0 || d.Prune(1) != 0 {
		t.Error("a nil directory tells something")
	}
	seq := d.Walk(api.MaxStamp)
	if seq == nil {
		t.Fatal("Walk of nil is nil")
	}
	if l := walked(seq); len(l) != 0 {
		t.Errorf("Walk of nil gives %#v", l)
	}
	if seq := New().Walk(0); seq == nil || len(walked(seq)) != 0 {
		t.Error("Walk of a new one gives something, or is nil")
	}
	absent(t, New(), key("A", "a"))
}

// Two directories know nothing of each other: R2.
func TestTwo(t *testing.T) {
	d, e := New(), New()
	d.Put(key("A", "a"), 1, 0, true, nil)
	d.Put(key("A", "a"), 2, 0, true, nil)
	absent(t, e, key("A", "a"))
	e.Put(key("A", "a"), 7, 0, true, nil)
	e.Prune(api.MaxStamp)
	if d.Count() != 2 || e.Count() != 1 {
		t.Errorf("Count() = %d, %d; want 2, 1", d.Count(), e.Count())
	}
}
