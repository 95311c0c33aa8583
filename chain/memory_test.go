package chain

import (
	"slices"
	"testing"

	"folio/api"
)

// What stands in the spare room of arguments, where a call must leave it.
const (
	spareName = "spare"
	spareText = "spare text"
)

// roomy is the same value in new lists, all with spare room.
func roomy(v []api.Field) []api.Field {
	own := make([]api.Field, 0, len(v)+3)
	for _, f := range v {
		texts := make([]string, 0, len(f.Texts)+3)
		texts = append(append(texts, f.Texts...), spareText, spareText, spareText)
		own = append(own, api.Field{Name: f.Name, Texts: texts[:len(f.Texts)]})
	}
	spare := one(spareName, spareText)
	return append(own, spare, spare, spare)[:len(v)]
}

// untouched fails unless v, which roomy made of was, is as it was, spare room too.
func untouched(t *testing.T, what string, v, was []api.Field) {
	t.Helper()
	if !same(v, was) {
		t.Fatalf("%s: changed to %q; was %q", what, v, was)
	}
	for _, f := range v {
		for _, text := range f.Texts[len(f.Texts):cap(f.Texts)] {
			if text != spareText {
				t.Fatalf("%s: the spare room of %q has %q", what, f.Texts, text)
			}
		}
	}
	for _, f := range v[len(v):cap(v)] {
		if !sameField(f, one(spareName, spareText)) {
			t.Fatalf("%s: the spare room has %q", what, f)
		}
	}
}

// spoil writes over all of a value's memory, spare room too.
func spoil(v []api.Field) {
	v = v[:cap(v)]
	for i, f := range v {
		texts := f.Texts[:cap(f.Texts)]
		for j := range texts {
			texts[j] = "spoilt"
		}
		v[i] = one("spoilt", "spoilt")
	}
}

// spoilList writes over all of a list's memory, spare room too.
func spoilList(l []api.Version) {
	l = l[:cap(l)]
	for i := range l {
		spoil(l[i].Value)
		l[i] = api.Version{Number: -1, Stamp: 77, Tick: 77, Live: true, Value: row(one("spoilt", "spoilt"))}
	}
}

// someValues are normal values of several shapes.
func someValues() [][]api.Field {
	return [][]api.Field{nil, {}, row(one("a", "x")), row(one("a", "x", "y"), one("b", "x")), row(one("a", "x", "x"), one("b", "x"), one("c", "z"))}
}

// Values that are handed in are neither changed nor kept: P6.4 and R3.
func TestArguments(t *testing.T) {
	for _, v := range append(someValues(), amiss()...) {
		for _, live := range []bool{true, false} {
			given := roomy(v)
			c := New()
			c.Put(1, 0, true, nil)
			c.Put(2, 0, live, given)
			untouched(t, "Put", given, v)
			was := c.All()
			spoil(given)
			if got := c.All(); !sameList(got, was) {
				t.Errorf("Put has kept the memory of %q: %#v", v, got)
			}
			given = roomy(v)
			c = New()
			c.Put(1, 0, true, given)
			c.At(1)
			c.All()
			c.Put(2, 0, false, nil)
			c.Prune(2)
			untouched(t, "calls behind Put", given, v)
		}
	}
}

// filled is a chain with all of someValues, and a version behind each that isn't live.
func filled() *Chain {
	c := New()
	for i, v := range someValues() {
		c.Put(uint64(2*i+1), int64(i), true, v)
		c.Put(uint64(2*i+2), int64(i), false, nil)
	}
	return c
}

// All that is told is new memory, spare room too: P6.4 and R3.
func TestAnswers(t *testing.T) {
	c := filled()
	was := filled().All()
	check := func(what string) {
		t.Helper()
		if got := c.All(); !sameList(got, was) {
			t.Fatalf("%s hands out the chain's own memory: %#v", what, got)
		}
	}
	check("nothing yet")
	for n := range uint64(2*len(someValues()) + 2) {
		v, _ := c.At(n)
		spoil(v.Value)
		check("At")
		v, _ = c.Number(int(n))
		spoil(v.Value)
		check("Number")
		spoilList(c.Since(n))
		check("Since")
	}
	spoilList(c.All())
	check("All")
	c.Put(99, 1, true, row(one("a", "x", "y")))
	was = c.All()
	v, _ := c.Last()
	spoil(v.Value)
	check("Last")
	if n := c.Prune(4); n != 3 {
		t.Fatalf("Prune(4) = %d; want 3", n)
	}
	was = was[3:]
	check("Prune")
	spoilList(c.All())
	spoilList(c.Since(0))
	check("All and Since behind Prune")
}

// What was told stays as it was told, whatever is done with the chain behind it: P6.4 and R3.
func TestToldStays(t *testing.T) {
	c := filled()
	all, since := c.All(), c.Since(3)
	wantAll, wantSince := filled().All(), filled().Since(3)
	c.Prune(6)
	for n := range uint64(20) {
		c.Put(20+n, 0, true, row(one("z", "z")))
	}
	c.Prune(25)
	if !sameList(all, wantAll) || !sameList(since, wantSince) {
		t.Errorf("what was told has changed: %#v, %#v", all, since)
	}
}

// No two lists of an answer share memory: R3.
func TestAnswerApart(t *testing.T) {
	for _, told := range []func() []api.Version{filled().All, func() []api.Version { return filled().Since(2) }} {
		for i := range told() {
			l := told()
			want := slices.Clone(told())[i]
			for j := range l {
				if i != j {
					spoil(l[j].Value)
				}
			}
			if !sameVersion(l[i], want) {
				t.Errorf("version %d shares memory with another: %#v; want %#v", i, l[i], want)
			}
		}
	}
	for i, f := range greatest() {
		c := New()
		c.Put(1, 0, true, greatest())
		v, _ := c.At(1)
		for j := range v.Value {
			if i != j {
				spoil(v.Value[j : j+1 : j+1])
			}
		}
		if !sameField(v.Value[i], f) {
			t.Errorf("field %d shares memory with another", i)
		}
	}
	// Two answers share none either.
	c := filled()
	a, b := c.All(), c.All()
	spoilList(a)
	if !sameList(b, filled().All()) {
		t.Errorf("two answers share memory: %#v", b)
	}
}
