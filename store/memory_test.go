package store

import (
	"slices"
	"testing"

	"folio/api"
	"folio/marks"
	"folio/value"
)

// some is a store with keys of two types, and a transaction in it that has read and written.
func some(t *testing.T) (*Store, *Txn) {
	s := made(t, api.Config{Versions: 20, Tracked: 4, Tries: 1})
	puts(t, s, key("A", "a"), fields(one("n", "x", "y"), one("o", "z")))
	puts(t, s, key("A", "b"), fields(one("n", "x")))
	puts(t, s, key("A", "a"), fields(one("n", "w"), one("o", "z", "z")))
	puts(t, s, key("B", "a"), fields(one("p", "q")))
	x := s.Begin()
	x.Put(key("A", "b"), fields(one("n", "x", "v"), one("p", "1")))
	x.Put(key("A", "c"), fields(one("n", "x")))
	x.Delete(key("B", "a"))
	x.Read(key("A", "a"))
	x.Scan("A", terms(is("n", "x"), is("p", "1")))
	x.Scan("B", terms(is("p", "q")))
	return s, x
}

// answers are all answers with lists of the store and the transaction, as one list: one of each call that tells versions.
func answers(s *Store, x *Txn) [][]api.Found {
	r := &real{store: s, txns: []*Txn{x}}
	var l [][]api.Found
	for _, c := range []call{
		{kind: cRead, key: key("A", "a")},
		{kind: cRead, key: key("A", "b")},
		{kind: cScan, typ: "A"},
		{kind: cScan, typ: "A", pred: terms(is("n", "x"))},
		{kind: cAt, key: key("A", "a"), at: 1},
		{kind: cAt, key: key("A", "a"), at: 9},
		{kind: cFind, typ: "A", at: 9},
		{kind: cHistory, key: key("A", "a")},
		{kind: cSince, typ: "A"},
		{kind: cNumber, key: key("A", "a"), n: 1},
	} {
		l = append(l, r.do(c).list)
	}
	v, _ := s.Visible(key("A", "a"), 9)
	return append(l, []api.Found{{Version: v}})
}

func sameAnswers(a, b [][]api.Found) bool {
	return slices.EqualFunc(a, b, func(a, b []api.Found) bool { return slices.EqualFunc(a, b, sameFound) })
}

// fill writes over all of a list's memory, spare room too.
func fill[T any](l []T, with T) {
	l = l[:cap(l)]
	for i := range l {
		l[i] = with
	}
}

// fieldSpoilers write each over the memory of one of a value's lists.
func fieldSpoilers(v []api.Field) []func() {
	var out []func()
	for _, f := range v[:cap(v)] {
		out = append(out, func() { fill(f.Texts, "spoilt") })
	}
	return append(out, func() { fill(v, one("spoilt", "spoilt")) })
}

// spoilers write each over the memory of one of the lists of an answer.
func spoilers(l []api.Found) []func() {
	var out []func()
	for _, f := range l[:cap(l)] {
		out = append(out, fieldSpoilers(f.Version.Value)...)
	}
	return append(out, func() { fill(l, api.Found{Key: key("spoilt", "spoilt")}) })
}

func markSpoilers(m api.Marks) []func() {
	var out []func()
	for _, r := range m.Ranges[:cap(m.Ranges)] {
		out = append(out, func() { fill(r.Pred, is("spoilt", "spoilt")) })
	}
	return append(out, func() { fill(m.Ranges, api.Range{Type: "spoilt"}) }, func() { fill(m.Keys, key("spoilt", "spoilt")) })
}

func changeSpoilers(l []api.Change) []func() {
	var out []func()
	for _, c := range l[:cap(l)] {
		out = append(out, fieldSpoilers(c.Was)...)
		out = append(out, fieldSpoilers(c.Is)...)
	}
	return append(out, func() { fill(l, api.Change{Key: key("spoilt", "spoilt")}) })
}

// Who writes over what was told changes nothing of the store and the transaction: P15.7 and R3.
func TestToldIsNew(t *testing.T) {
	s, x := some(t)
	fresh, other := some(t)
	want := answers(fresh, other)
	wantMarks, wantChanges := other.Marks(), other.Changes()
	for i := range want {
		for _, f := range spoilers(answers(s, x)[i]) {
			f()
		}
		if got := answers(s, x); !sameAnswers(got, want) {
			t.Fatalf("answer %d was the store's own memory: %v", i, got)
		}
	}
	for _, f := range markSpoilers(x.Marks()) {
		f()
	}
	for _, f := range changeSpoilers(x.Changes()) {
		f()
	}
	if got := answers(s, x); !sameAnswers(got, want) {
		t.Errorf("Changes were the store's own memory: %v", got)
	}
	if got := x.Marks(); !marks.Equal(got, wantMarks) {
		t.Errorf("Marks were the transaction's own memory: %v", got)
	}
	if got := x.Changes(); !slices.EqualFunc(got, wantChanges, sameChange) {
		t.Errorf("Changes were the transaction's own memory: %v", got)
	}
	commits(t, x, 5, api.OK)
	if v, _ := s.Visible(key("A", "b"), 5); !value.Equal(v.Value, fields(one("n", "x", "v"), one("p", "1"))) {
		t.Error(v)
	}
}

// What was told stays as it was, whatever is done behind it: P15.7 and R3.
func TestToldStays(t *testing.T) {
	s, x := some(t)
	fresh, other := some(t)
	got, want := answers(s, x), answers(fresh, other)
	m, changes := x.Marks(), x.Changes()
	wantMarks, wantChanges := other.Marks(), other.Changes()
	x.Put(key("A", "b"), nil)
	x.Put(key("A", "0"), n("x"))
	x.Read(key("A", "0"))
	x.Scan("A", terms(is("a", "b")))
	x.Delete(key("A", "a"))
	commits(t, x, 5, api.OK)
	puts(t, s, key("A", "a"), nil)
	s.Vacuum()
	if !sameAnswers(got, want) {
		t.Errorf("what was told has changed to %v", got)
	}
	if !slices.EqualFunc(changes, wantChanges, sameChange) || !marks.Equal(m, wantMarks) {
		t.Errorf("what was told has changed to %v, %v", changes, m)
	}
}

// spoiltFields is how many of a value's lists aren't as they were; one that stands in another counts by itself alone.
func spoiltFields(v, was []api.Field) int {
	if !slices.EqualFunc(v, was, func(a, b api.Field) bool { return a.Name == b.Name }) {
		return 1
	}
	n := 0
	for i := range v {
		if !slices.Equal(v[i].Texts, was[i].Texts) {
			n++
		}
	}
	return n
}

func spoilt(l, was []api.Found) int {
	if !slices.EqualFunc(l, was, func(a, b api.Found) bool { return a.Key == b.Key }) {
		return 1
	}
	n := 0
	for i := range l {
		n += spoiltFields(l[i].Version.Value, was[i].Version.Value)
	}
	return n
}

func spoiltChanges(l, was []api.Change) int {
	if !slices.EqualFunc(l, was, func(a, b api.Change) bool { return a.Key == b.Key }) {
		return 1
	}
	n := 0
	for i := range l {
		n += spoiltFields(l[i].Was, was[i].Was) + spoiltFields(l[i].Is, was[i].Is)
	}
	return n
}

func spoiltMarks(m, was api.Marks) int {
	n := 0
	if !slices.Equal(m.Keys, was.Keys) {
		n++
	}
	if !slices.EqualFunc(m.Ranges, was.Ranges, func(a, b api.Range) bool { return a.Type == b.Type }) {
		return n + 1
	}
	for i := range m.Ranges {
		if !slices.Equal(m.Ranges[i].Pred, was.Ranges[i].Pred) {
			n++
		}
	}
	return n
}

// No two lists of an answer share memory, and no two answers: P15.7 and R3.
func TestAnswersApart(t *testing.T) {
	s, x := some(t)
	want := answers(some(t))
	for i := range want {
		for k := range spoilers(answers(s, x)[i]) {
			l, other := answers(s, x), answers(s, x)
			spoilers(l[i])[k]()
			if got := spoilt(l[i], want[i]); got > 1 {
				t.Errorf("answer %d: what writes over list %d has spoilt %d", i, k, got)
			}
			l[i] = other[i]
			if !sameAnswers(l, want) || !sameAnswers(other, want) {
				t.Errorf("answer %d shares memory with another", i)
			}
		}
	}
	for k := range changeSpoilers(x.Changes()) {
		l, other := x.Changes(), x.Changes()
		changeSpoilers(l)[k]()
		if got := spoiltChanges(l, other); got > 1 || spoiltChanges(x.Changes(), other) != 0 {
			t.Errorf("Changes: what writes over list %d has spoilt %d", k, got)
		}
	}
	for k := range markSpoilers(x.Marks()) {
		m, other := x.Marks(), x.Marks()
		markSpoilers(m)[k]()
		if got := spoiltMarks(m, other); got > 1 || spoiltMarks(x.Marks(), other) != 0 {
			t.Errorf("Marks: what writes over list %d has spoilt %d", k, got)
		}
	}
}

// roomy is a list with spare room that is filled.
func roomy[T any](l []T, spare T) []T {
	return append(slices.Clone(l), spare, spare, spare)[:len(l)]
}

// A value that is handed in is left as it is, spare room too, and not kept: P15.7 and R3.
func TestValueStays(t *testing.T) {
	for _, v := range [][]api.Field{nil, n("x"), fields(one("n", "x", "y"), one("o", "z")), fields(one("o", "1"), one("n", "x")), fields(one("n"))} {
		s := nine(t)
		x := s.Begin()
		given := roomy(v, one("spare", "spare"))
		for i := range given {
			given[i].Texts = roomy(given[i].Texts, "spare")
		}
		e := x.Put(key("A", "a"), given)
		if !value.Equal(given, v) || !value.Equal(given[len(v):len(v)+3], fields(one("spare", "spare"), one("spare", "spare"), one("spare", "spare"))) {
			t.Errorf("%v has become %v", v, given[:len(v)+3])
		}
		for i, f := range given {
			if !slices.Equal(f.Texts[len(f.Texts):len(v[i].Texts)+3], []string{"spare", "spare", "spare"}) {
				t.Errorf("the spare room of %v has changed", f)
			}
		}
		if e != api.OK {
			continue
		}
		for _, f := range fieldSpoilers(given) {
			f()
		}
		reads(t, x, key("A", "a"), api.Version{Number: 1, Live: true, Value: v}, api.OK)
		commits(t, x, 1, api.OK)
		if w, _ := s.Visible(key("A", "a"), 1); !value.Equal(w.Value, v) {
			t.Errorf("%v is kept as %v", v, w)
		}
	}
}

// A predicate that is handed in is left as it is, spare room too, and not kept: P15.7 and R3.
func TestPredicateStays(t *testing.T) {
	spare := api.Term{Field: "spare", Op: 77, Text: "spare"}
	for _, p := range [][]api.Term{nil, terms(is("n", "x")), terms(is("o", "x"), is("n", "x"), is("o", "x")), terms(api.Term{Op: 99})} {
		for _, ask := range []func(x *Txn, p []api.Term){
			func(x *Txn, p []api.Term) { x.Scan("A", p) },
			func(x *Txn, p []api.Term) { x.Find(api.MaxStamp, "A", p) },
			func(x *Txn, p []api.Term) { x.Find(0, "A", p) },
		} {
			_, x := some(t)
			given := roomy(p, spare)
			ask(x, given)
			if !slices.Equal(given, p) || !slices.Equal(given[len(p):len(p)+3], terms(spare, spare, spare)) {
				t.Errorf("%v has become %v", p, given[:len(p)+3])
			}
			want := x.Marks()
			fill(given, spare)
			if got := x.Marks(); !marks.Equal(got, want) {
				t.Errorf("%v is kept: %v", p, got)
			}
		}
	}
}
