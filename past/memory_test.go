package past

import (
	"slices"
	"testing"

	"folio/api"
	"folio/dir"
)

// some is a directory with keys of two types, one of them deleted at 6, one put anew at 7, and pruned by 2.
func some() *dir.Dir {
	d := dir.New()
	d.Put(key("B", "a"), 1, 1, true, row(one("n", "x", "y"), one("o", "z")))
	d.Put(key("A", "b"), 1, 1, true, nil)
	d.Put(key("A", "b"), 2, 1, true, row(one("n", "x")))
	d.Put(key("A", "a"), 3, 2, true, nil)
	d.Put(key("A", "c"), 4, 2, true, row(one("a", "1"), one("b", "2", "2")))
	d.Put(key("A", "c"), 6, 3, false, nil)
	d.Put(key("A", "b"), 7, 3, true, row(one("n", "w"), one("o", "v")))
	d.Prune(2)
	return d
}

// someWorld is what is asked of it.
func someWorld() world {
	return world{
		keys:   []api.Key{key("A", "a"), key("A", "b"), key("A", "c"), key("A", "d"), key("B", "a")},
		types:  []string{"A", "B", "C"},
		stamps: []uint64{0, 1, 2, 4, 5, 6, 7, api.MaxStamp},
		preds:  [][]api.Term{nil, {{Field: "n", Op: api.OpIs, Text: "x"}, {Field: "b", Op: api.OpLacks}}},
		most:   4,
	}
}

// all is all that a directory of someWorld's types has.
func all(d *dir.Dir) []api.Found { return append(d.Log("A", 0), d.Log("B", 0)...) }

// fill writes over all of a list's memory, spare room too.
func fill[T any](l []T, with T) {
	l = l[:cap(l)]
	for i := range l {
		l[i] = with
	}
}

// spoilers write each over the memory of one of the lists of an answer, spare room too.
func spoilers(l []api.Found) []func() {
	var out []func()
	for _, f := range l[:cap(l)] {
		v := f.Version.Value
		for _, x := range v[:cap(v)] {
			out = append(out, func() { fill(x.Texts, "spoilt") })
		}
		out = append(out, func() { fill(v, one("spoilt", "spoilt")) })
	}
	return append(out, func() {
		fill(l, api.Found{Key: key("spoilt", "spoilt"), Version: api.Version{Number: -1, Stamp: 77, Live: true}})
	})
}

// Nothing of a directory is changed by a call, nor by who writes over what was told: P14.5 and R3.
func TestDirectoryStays(t *testing.T) {
	d, w, want := some(), someWorld(), all(some())
	for _, window := range w.windows() {
		for _, q := range w.questions() {
			l, _ := ask(d, window, q)
			if got := all(d); !sameFinds(got, want) {
				t.Fatalf("%v, %+v has changed the directory: %v", window, q, got)
			}
			for _, f := range spoilers(l) {
				f()
			}
			if got := all(d); !sameFinds(got, want) || !slices.Equal(d.Keys("A"), some().Keys("A")) {
				t.Fatalf("%v, %+v hands out the directory's own memory: %v", window, q, got)
			}
		}
	}
}

// The list that History tells is new memory as well; ask makes one of its own.
func TestHistoryStays(t *testing.T) {
	d, want := some(), all(some())
	for _, k := range someWorld().keys {
		for snap := range uint64(9) {
			l, _ := History(d, Window{Snap: snap}, k, 0)
			for _, v := range l[len(l):cap(l)] {
				if v.Stamp > snap {
					t.Errorf("History of %v up to %d has %v in its spare room", k, snap, v)
				}
			}
			fill(l, api.Version{Number: -1, Stamp: 77})
			if got := all(d); !sameFinds(got, want) {
				t.Fatalf("History hands out the directory's own memory: %v", got)
			}
		}
	}
}

// What was told stays as it was, whatever is done with the directory behind it: P14.5 and R3.
func TestToldStays(t *testing.T) {
	w := someWorld()
	for _, window := range w.windows() {
		d := some()
		var told [][]api.Found
		for _, q := range w.questions() {
			l, _ := ask(d, window, q)
			told = append(told, l)
		}
		d.Put(key("A", "0"), 20, 9, true, row(one("n", "new")))
		d.Put(key("A", "a"), 21, 9, false, nil)
		d.Put(key("A", "b"), 22, 9, true, row(one("n", "other")))
		d.Prune(api.MaxStamp)
		for i, q := range w.questions() {
			if want, _ := ask(some(), window, q); !sameFinds(told[i], want) {
				t.Fatalf("%v, %+v: what was told has changed to %v", window, q, told[i])
			}
		}
	}
}

// spoilt is how many of an answer's lists aren't as they were; one that stands in another counts by itself alone.
func spoilt(l, was []api.Found) int {
	n := 0
	count := func(ok bool) {
		if !ok {
			n++
		}
	}
	count(slices.EqualFunc(l, was, func(a, b api.Found) bool { return a.Key == b.Key }))
	for i, f := range l {
		if f.Key != was[i].Key {
			continue
		}
		v, wasValue := f.Version.Value, was[i].Version.Value
		count(slices.EqualFunc(v, wasValue, func(a, b api.Field) bool { return a.Name == b.Name }))
		for j, x := range v {
			count(x.Name != wasValue[j].Name || slices.Equal(x.Texts, wasValue[j].Texts))
		}
	}
	return n
}

// No two lists of an answer share memory, and no two answers: P14.5 and R3.
func TestAnswersApart(t *testing.T) {
	d, w, window := some(), someWorld(), Window{Snap: 7}
	for _, q := range w.questions() {
		want, _ := ask(some(), window, q)
		first, _ := ask(d, window, q)
		for n := range spoilers(first) {
			l, _ := ask(d, window, q)
			other, _ := ask(d, window, q)
			spoilers(l)[n]()
			if got := spoilt(l, want); got > 1 {
				t.Errorf("%+v: what writes over one list, the one with the number %d, has spoilt %d", q, n, got)
			}
			if !sameFinds(other, want) {
				t.Errorf("%+v: two answers share memory", q)
			}
		}
	}
}

// A predicate that is handed in is left as it is, spare room too: P14.5 and R3.
func TestPredicateStays(t *testing.T) {
	spare := api.Term{Field: "spare", Op: 77, Text: "spare"}
	for _, p := range [][]api.Term{nil, {{Field: "n", Op: api.OpIs, Text: "x"}}, {{Field: "o", Op: api.OpLacks}, {Field: "n", Op: api.OpHas}, {Field: "n", Op: api.OpHas}}, {{Op: 99}}} {
		for _, d := range []*dir.Dir{nil, some()} {
			for _, window := range someWorld().windows() {
				given := append(slices.Clone(p), spare, spare, spare)[:len(p)]
				Find(d, window, 4, "A", given)
				if !slices.Equal(given, p) || !slices.Equal(given[len(p):len(p)+3], []api.Term{spare, spare, spare}) {
					t.Fatalf("Find has changed %v to %v", p, given[:len(p)+3])
				}
			}
		}
	}
}
