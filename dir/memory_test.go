package dir

import (
	"slices"
	"testing"

	"folio/api"
)

// What stands in the spare room of arguments, where a call must leave it.
const (
	spareName = "spare"
	spareText = "spare text"
)

// roomy is the same value in new lists, all with spare room.
func roomy(v []api.Field) []api.Field {
	own := make([]api.Field, 0, len(v)+3)
	for _, f := range v {
		texts := make([]string, 0, len(f.Texts)+3)
		texts = append(append(texts, f.Texts...), spareText, spareText, spareText)
		own = append(own, api.Field{Name: f.Name, Texts: texts[:len(f.Texts)]})
	}
	spare := one(spareName, spareText)
	return append(own, spare, spare, spare)[:len(v)]
}

// untouched fails unless v, which roomy made of was, is as it was, spare room too.
func untouched(t *testing.T, what string, v, was []api.Field) {
	t.Helper()
	if !same(v, was) {
		t.Fatalf("%s: changed to %q; was %q", what, v, was)
	}
	for _, f := range v {
		for _, text := range f.Texts[len(f.Texts):cap(f.Texts)] {
			if text != spareText {
				t.Fatalf("%s: the spare room of %q has %q", what, f.Texts, text)
			}
		}
	}
	for _, f := range v[len(v):cap(v)] {
		if !sameField(f, one(spareName, spareText)) {
			t.Fatalf("%s: the spare room has %q", what, f)
		}
	}
}

// spoil writes over all of a value's memory, spare room too.
func spoil(v []api.Field) {
	v = v[:cap(v)]
	for i, f := range v {
		texts := f.Texts[:cap(f.Texts)]
		for j := range texts {
			texts[j] = "spoilt"
		}
		v[i] = one("spoilt", "spoilt")
	}
}

// spoilFinds writes over all of a list's memory, spare room too.
func spoilFinds(l []api.Found) {
	l = l[:cap(l)]
	for i := range l {
		spoil(l[i].Version.Value)
		l[i] = api.Found{Key: key("spoilt", "spoilt"), Version: api.Version{Number: -1, Stamp: 77, Live: true, Value: row(one("spoilt", "spoilt"))}}
	}
}

func spoilVersions(l []api.Version) {
	l = l[:cap(l)]
	for i := range l {
		spoil(l[i].Value)
		l[i] = api.Version{Number: -1, Stamp: 77, Live: true}
	}
}

func spoilKeys(l []api.Key) {
	l = l[:cap(l)]
	for i := range l {
		l[i] = key("spoilt", "spoilt")
	}
}

// all is all that a directory has, of the types of some.
func all(d *Dir) []api.Found { return append(d.Log("A", 0), d.Log("B", 0)...) }

// Values and predicates that are handed in are neither changed nor kept: P7.5 and R3.
func TestArguments(t *testing.T) {
	k := key("A", "a")
	for _, v := range [][]api.Field{nil, row(one("a", "x")), row(one("a", "x", "y"), one("b", "x")), row(one("a")), row(one("b", "x"), one("a", "x"))} {
		for _, live := range []bool{true, false} {
			given := roomy(v)
			d := New()
			d.Put(k, 1, 0, true, nil)
			d.Put(k, 2, 0, live, given)
			untouched(t, "Put", given, v)
			was := all(d)
			spoil(given)
			if got := all(d); !sameFinds(got, was) {
				t.Errorf("Put has kept the memory of %q: %#v", v, got)
			}
		}
	}
	spare := api.Term{Field: spareName, Op: 77, Text: spareText}
	for _, p := range somePreds() {
		given := append(slices.Clone(p), spare, spare, spare)[:len(p)]
		was := slices.Clone(p)
		some().Scan("A", 4, given)
		if !slices.Equal(given, was) {
			t.Errorf("Scan has changed %v to %v", was, given)
		}
		for _, x := range given[len(given) : len(given)+3] {
			if x != spare {
				t.Errorf("Scan has changed the spare room of %v: %v", was, x)
			}
		}
	}
}

// All that is told is new memory, spare room too: P7.5 and R3.
func TestAnswers(t *testing.T) {
	d := some()
	d.Put(key("A", "a"), 8, 0, true, row(one("a", "x", "y")))
	want := all(d)
	check := func(what string) {
		t.Helper()
		if got := all(d); !sameFinds(got, want) {
			t.Fatalf("%s hands out the directory's own memory: %#v", what, got)
		}
		if len(d.Keys("A")) != 3 || len(d.Keys("B")) != 1 {
			t.Fatalf("%s hands out the directory's own keys: %v", what, d.Keys("A"))
		}
	}
	for stamp := range uint64(9) {
		for _, k := range []api.Key{key("A", "a"), key("A", "b"), key("A", "c"), key("B", "a")} {
			v, _ := d.At(k, stamp)
			spoil(v.Value)
			check("At")
			v, _ = d.Number(k, int(stamp))
			spoil(v.Value)
			check("Number")
			v, _ = d.Last(k)
			spoil(v.Value)
			check("Last")
			v, _ = d.First(k)
			spoil(v.Value)
			check("First")
			spoilVersions(d.Since(k, stamp))
			check("Since")
		}
		for _, typ := range []string{"A", "B"} {
			spoilKeys(d.Keys(typ))
			check("Keys")
			spoilFinds(d.Scan(typ, stamp, nil))
			check("Scan")
			spoilFinds(d.Log(typ, stamp))
			check("Log")
		}
		for _, v := range d.Walk(stamp) {
			spoil(v.Value)
		}
		check("Walk")
	}
}

// What was told stays as it was told, whatever is done with the directory behind it: P7.5 and R3.
func TestToldStays(t *testing.T) {
	d := some()
	keys, scan, log, since := d.Keys("A"), d.Scan("A", 4, nil), d.Log("A", 1), d.Since(key("A", "b"), 0)
	change(d)
	if !slices.Equal(keys, some().Keys("A")) || !sameFinds(scan, some().Scan("A", 4, nil)) || !sameFinds(log, some().Log("A", 1)) || !sameList(since, some().Since(key("A", "b"), 0)) {
		t.Errorf("what was told has changed: %v, %#v, %#v, %#v", keys, scan, log, since)
	}
}

// No two lists of an answer share memory, and no two answers: R3.
func TestAnswersApart(t *testing.T) {
	d := some()
	for what, told := range map[string]func() []api.Found{
		"Scan": func() []api.Found { return d.Scan("A", 4, nil) },
		"Log":  func() []api.Found { return d.Log("A", 0) },
		"Walk": func() []api.Found { return walked(d.Walk(4)) },
	} {
		want := told()
		for i := range want {
			l := told()
			for j := range l {
				if i != j {
					spoil(l[j].Version.Value)
				}
			}
			if !sameFound(l[i], want[i]) {
				t.Errorf("%s: number %d shares memory with another: %#v", what, i, l[i])
			}
		}
		a, b := told(), told()
		spoilFinds(a)
		if !sameFinds(b, want) {
			t.Errorf("%s: two answers share memory: %#v", what, b)
		}
	}
}
