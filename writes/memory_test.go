package writes

import (
	"slices"
	"testing"

	"folio/api"
)

// What stands in the spare room of arguments, where a call must leave it.
const (
	spareName = "spare"
	spareText = "spare text"
)

// roomy is the same value in new lists, all with spare room.
func roomy(v []api.Field) []api.Field {
	own := make([]api.Field, 0, len(v)+3)
	for _, f := range v {
		texts := make([]string, 0, len(f.Texts)+3)
		texts = append(append(texts, f.Texts...), spareText, spareText, spareText)
		own = append(own, api.Field{Name: f.Name, Texts: texts[:len(f.Texts)]})
	}
	spare := one(spareName, spareText)
	return append(own, spare, spare, spare)[:len(v)]
}

// untouched fails unless v, which roomy made of was, is as it was, spare room too.
func untouched(t *testing.T, what string, v, was []api.Field) {
	t.Helper()
	if !same(v, was) {
		t.Fatalf("%s: changed to %q; was %q", what, v, was)
	}
	for _, f := range v {
		for _, text := range f.Texts[len(f.Texts):cap(f.Texts)] {
			if text != spareText {
				t.Fatalf("%s: the spare room of %q has %q", what, f.Texts, text)
			}
		}
	}
	for _, f := range v[len(v):cap(v)] {
		if !sameField(f, one(spareName, spareText)) {
			t.Fatalf("%s: the spare room has %q", what, f)
		}
	}
}

// spoil writes over all of a value's memory, spare room too.
func spoil(v []api.Field) {
	v = v[:cap(v)]
	for i, f := range v {
		texts := f.Texts[:cap(f.Texts)]
		for j := range texts {
			texts[j] = "spoilt"
		}
		v[i] = one("spoilt", "spoilt")
	}
}

// spoilFinds writes over all of a list's memory, spare room too.
func spoilFinds(l []api.Found) {
	l = l[:cap(l)]
	for i := range l {
		spoil(l[i].Version.Value)
		l[i] = numbered(key("spoilt", "spoilt"), -1)
	}
}

// some is a set with live writes and one that is not.
func some() *Set {
	s := New()
	s.Put(key("A", "a"), row(one("a", "x", "y"), one("b", "x")))
	s.Put(key("A", "b"), nil)
	s.Delete(key("A", "c"))
	s.Put(key("A", "d"), row(one("a", "x")))
	return s
}

// someFound has keys that some has written, and others, out of order, one of them twice.
func someFound() []api.Found {
	return []api.Found{numbered(key("A", "z"), 1), numbered(key("A", "c"), 1), numbered(key("A", "aa"), 1), numbered(key("B", "a"), 2), numbered(key("A", "aa"), 2)}
}

// Values that are written are neither changed nor kept: P11.3.
func TestPutKeepsCopies(t *testing.T) {
	k := key("A", "a")
	for _, v := range [][]api.Field{nil, row(one("a", "x")), row(one("a", "x", "y"), one("b", "x")), row(one("a")), row(one("b", "x"), one("a", "x"))} {
		given, s := roomy(v), New()
		s.Put(k, given)
		untouched(t, "Put", given, v)
		was, live, there := s.Get(k)
		spoil(given)
		gets(t, s, k, was, live, there)
		if there {
			lays(t, s, nil, "A", nil, fresh(k, was))
		}
	}
}

// What Over is handed is neither changed nor in its answer: P11.3.
func TestOverLeavesFound(t *testing.T) {
	spareTerm, spareFound := api.Term{Field: spareName, Op: 77, Text: spareText}, numbered(key("spare", "spare"), 77)
	p := append([]api.Term{}, is("b", "x"), is("a", "y"), spareTerm, spareTerm)[:2]
	var none *Set
	for _, s := range []*Set{some(), New(), none} {
		found := make([]api.Found, 0, 12)
		for _, f := range someFound() {
			f.Version.Value = roomy(f.Version.Value)
			found = append(found, f)
		}
		n := len(found)
		for range cap(found) - n {
			found = append(found, spareFound)
		}
		found = found[:n]
		told := s.Over(found, "A", p)
		if !sameFinds(found, someFound()) || !sameFinds(found[n:12], slices.Repeat([]api.Found{spareFound}, 12-n)) {
			t.Fatal("Over has changed what was found:", found[:12])
		}
		for _, f := range found {
			untouched(t, "Over", f.Version.Value, row(one("n", "old")))
		}
		if !slices.Equal(p[:4], []api.Term{is("b", "x"), is("a", "y"), spareTerm, spareTerm}) {
			t.Fatal("Over has changed the predicate:", p[:4])
		}
		want := s.Over(someFound(), "A", p)
		spoilFinds(found)
		if !sameFinds(told, want) {
			t.Fatal("Over tells the memory of what was found:", told)
		}
	}
}

// All that is told is new memory, spare room too: P11.3.
func TestAnswers(t *testing.T) {
	s := some()
	check := func(what string) {
		t.Helper()
		has(t, s, some().Keys()...)
		for _, k := range some().Keys() {
			v, live, there := some().Get(k)
			gets(t, s, k, v, live, there)
		}
		if t.Failed() {
			t.Fatalf("%s hands out the set's own memory", what)
		}
	}
	for _, k := range s.Keys() {
		v, _, _ := s.Get(k)
		spoil(v)
		check("Get")
	}
	keys := s.Keys()
	for i := range keys[:cap(keys)] {
		keys[:cap(keys)][i] = key("spoilt", "spoilt")
	}
	check("Keys")
	spoilFinds(s.Over(someFound(), "A", nil))
	spoilFinds(s.Over(nil, "A", nil))
	check("Over")
}

// No two values that Over tells share memory, and no two answers: R3.
func TestAnswersApart(t *testing.T) {
	s := some()
	want := s.Over(someFound(), "A", nil)
	for i := range want {
		l := s.Over(someFound(), "A", nil)
		for j := range l {
			if i != j {
				spoil(l[j].Version.Value)
			}
		}
		if !sameFound(l[i], want[i]) {
			t.Errorf("number %d shares memory with another: %v", i, l[i])
		}
	}
	// Found may have one value's memory in two places; what is told has not.
	shared := row(one("a", "x"))
	twice := []api.Found{fresh(key("Z", "a"), shared), fresh(key("Z", "b"), shared)}
	l := s.Over(twice, "B", nil)
	spoil(l[0].Version.Value)
	if !same(l[1].Version.Value, shared) || !same(shared, row(one("a", "x"))) {
		t.Error("two values of one answer share memory:", l)
	}
}

// What was told stays as it was told, whatever is written behind it: R3.
func TestToldStays(t *testing.T) {
	s := some()
	keys, over := s.Keys(), s.Over(someFound(), "A", nil)
	v, _, _ := s.Get(key("A", "a"))
	s.Put(key("A", "a"), row(one("z", "z")))
	s.Forget(key("A", "b"))
	s.Delete(key("A", "d"))
	s.Put(key("A", "0"), nil)
	was, _, _ := some().Get(key("A", "a"))
	if !slices.Equal(keys, some().Keys()) || !sameFinds(over, some().Over(someFound(), "A", nil)) || !same(v, was) {
		t.Error("what was told has changed:", keys, over, v)
	}
}
