package writes

import (
	"slices"
	"strings"
	"testing"

	"folio/api"
)

func key(typ, id string) api.Key { return api.Key{Type: typ, ID: id} }

func one(name string, texts ...string) api.Field { return api.Field{Name: name, Texts: texts} }

func row(fields ...api.Field) []api.Field { return fields }

func is(field, text string) api.Term { return api.Term{Field: field, Op: api.OpIs, Text: text} }

// numbered is a live version that was found, with a number by which it is known again.
func numbered(k api.Key, n int) api.Found {
	return api.Found{Key: k, Version: api.Version{Number: n, Stamp: uint64(n) + 5, Tick: int64(n) + 7, Live: true, Value: row(one("n", "old"))}}
}

// fresh is what Over tells of a write.
func fresh(k api.Key, v []api.Field) api.Found {
	return api.Found{Key: k, Version: api.Version{Live: true, Value: v}}
}

func sameField(a, b api.Field) bool { return a.Name == b.Name && slices.Equal(a.Texts, b.Texts) }

func same(a, b []api.Field) bool { return slices.EqualFunc(a, b, sameField) }

func sameFound(a, b api.Found) bool {
	v, w := a.Version, b.Version
	return a.Key == b.Key && v.Number == w.Number && v.Stamp == w.Stamp && v.Tick == w.Tick && v.Live == w.Live && same(v.Value, w.Value)
}

func sameFinds(a, b []api.Found) bool { return slices.EqualFunc(a, b, sameFound) }

func puts(t *testing.T, s *Set, k api.Key, v []api.Field, want api.Errno) {
	t.Helper()
	if e := s.Put(k, v); e != want {
		t.Errorf("Put(%v, %q): %v; want %v", k, v, e, want)
	}
}

func deletes(t *testing.T, s *Set, k api.Key, want api.Errno) {
	t.Helper()
	if e := s.Delete(k); e != want {
		t.Errorf("Delete(%v): %v; want %v", k, e, want)
	}
}

func forgets(t *testing.T, s *Set, k api.Key, want bool) {
	t.Helper()
	if got := s.Forget(k); got != want {
		t.Errorf("Forget(%v): %v; want %v", k, got, want)
	}
}

func gets(t *testing.T, s *Set, k api.Key, v []api.Field, live, there bool) {
	t.Helper()
	gotV, gotLive, gotThere := s.Get(k)
	if !same(gotV, v) || gotLive != live || gotThere != there {
		t.Errorf("Get(%v): %q, %v, %v; want %q, %v, %v", k, gotV, gotLive, gotThere, v, live, there)
	}
}

func has(t *testing.T, s *Set, want ...api.Key) {
	t.Helper()
	if got := s.Keys(); !slices.Equal(got, want) {
		t.Errorf("Keys: %v; want %v", got, want)
	}
	if got := s.Len(); got != len(want) {
		t.Errorf("Len: %d; want %d", got, len(want))
	}
}

func lays(t *testing.T, s *Set, found []api.Found, typ string, p []api.Term, want ...api.Found) {
	t.Helper()
	if got := s.Over(found, typ, p); !sameFinds(got, want) {
		t.Errorf("Over(%v, %q, %v): %v; want %v", found, typ, p, got, want)
	}
}

// The chapter's examples.
func TestExamples(t *testing.T) {
	s := New()
	a, b, c, d := key("A", "a"), key("A", "b"), key("A", "c"), key("A", "d")
	x := row(one("n", "x"))
	has(t, s)
	puts(t, s, a, x, api.OK)
	deletes(t, s, b, api.OK)
	puts(t, s, c, nil, api.OK)
	has(t, s, a, b, c)
	gets(t, s, a, x, true, true)
	gets(t, s, b, nil, false, true)
	gets(t, s, c, nil, true, true)
	gets(t, s, d, nil, false, false)
	found := []api.Found{numbered(b, 1), numbered(d, 1)}
	lays(t, s, found, "A", nil, fresh(a, x), fresh(c, nil), numbered(d, 1))
	lays(t, s, found, "A", []api.Term{is("n", "x")}, fresh(a, x), numbered(d, 1))
	puts(t, s, key("a", "b"), x, api.ErrName)
	forgets(t, s, b, true)
	forgets(t, s, b, false)
	has(t, s, a, c)
	lays(t, s, found, "A", nil, fresh(a, x), numbered(b, 1), fresh(c, nil), numbered(d, 1))
}

// wrongKeys may not be.
func wrongKeys() []api.Key {
	return []api.Key{
		{}, key("A", ""), key("", "a"), key("a", "a"), key("A1", "a"), key("A", "a/b"), key("A", "a b"), key("A/a", "a"),
		key(strings.Repeat("A", api.MaxName+1), "a"), key("A", strings.Repeat("a", api.MaxName+1)),
	}
}

// wrongValues are not normal.
func wrongValues() [][]api.Field {
	var many []api.Field
	for n := range api.MaxFields + 1 {
		many = append(many, one("a"+string(rune('a'+n)), "x"))
	}
	return [][]api.Field{
		row(one("", "x")), row(one("A", "x")), row(one("a")), row(one("a", "x"), one("a", "x")), row(one("b", "x"), one("a", "x")),
		row(one("a", make([]string, api.MaxTexts+1)...)), row(one("a", strings.Repeat("x", api.MaxText+1))), row(one(strings.Repeat("a", api.MaxName+1), "x")), many,
	}
}

// A refused call has changed nothing; a key that may not be is told ahead of a value that isn't normal.
func TestRefused(t *testing.T) {
	a, b := key("A", "a"), key("A", "b")
	x := row(one("n", "x"))
	s := New()
	puts(t, s, a, x, api.OK)
	deletes(t, s, b, api.OK)
	for _, k := range wrongKeys() {
		puts(t, s, k, x, api.ErrName)
		puts(t, s, k, wrongValues()[0], api.ErrName)
		deletes(t, s, k, api.ErrName)
		forgets(t, s, k, false)
		gets(t, s, k, nil, false, false)
	}
	for _, v := range wrongValues() {
		for _, k := range []api.Key{a, b, key("A", "c")} {
			puts(t, s, k, v, api.ErrField)
		}
	}
	has(t, s, a, b)
	gets(t, s, a, x, true, true)
	gets(t, s, b, nil, false, true)
}

// What is just at the limits may be written.
func TestLimits(t *testing.T) {
	s := New()
	k := key(strings.Repeat("A", api.MaxName), strings.Repeat("a", api.MaxName))
	var v []api.Field
	for n := range api.MaxFields {
		texts := slices.Repeat([]string{strings.Repeat("\xff", api.MaxText)}, api.MaxTexts)
		v = append(v, one("a"+string(rune('a'+n)), texts...))
	}
	puts(t, s, k, v, api.OK)
	gets(t, s, k, v, true, true)
	has(t, s, k)
	lays(t, s, nil, k.Type, nil, fresh(k, v))
}

// Each write stands in the place of the one ahead of it, and a Forget lets all of them go.
func TestLastCounts(t *testing.T) {
	s, k := New(), key("A", "a")
	x, y := row(one("n", "x"), one("o", "x")), row(one("m", "y"))
	puts(t, s, k, x, api.OK)
	puts(t, s, k, y, api.OK)
	gets(t, s, k, y, true, true)
	deletes(t, s, k, api.OK)
	gets(t, s, k, nil, false, true)
	deletes(t, s, k, api.OK)
	has(t, s, k)
	lays(t, s, nil, "A", nil)
	puts(t, s, k, nil, api.OK)
	gets(t, s, k, nil, true, true)
	puts(t, s, k, x, api.OK)
	has(t, s, k)
	forgets(t, s, k, true)
	gets(t, s, k, nil, false, false)
	has(t, s)
	deletes(t, s, k, api.OK)
	forgets(t, s, k, true)
	has(t, s)
}

// Keys stand by type, then by id, as bytes, in whatever order they were written.
func TestOrder(t *testing.T) {
	want := []api.Key{key("A", "-"), key("A", "B"), key("A", "a"), key("A", "a.b"), key("A", "b"), key("AA", "a"), key("Aa", "A"), key("B", "A"), key("Z", "9")}
	for turn := range len(want) {
		s := New()
		for n := range want {
			k := want[(n*4+turn)%len(want)]
			if n%2 == 0 {
				puts(t, s, k, nil, api.OK)
			} else {
				deletes(t, s, k, api.OK)
			}
		}
		has(t, s, want...)
	}
}

// What was found is taken as it is: of any type, live or not, with any key and value, of one key as they stand.
func TestFoundAsItIs(t *testing.T) {
	s := New()
	x := row(one("n", "x"))
	puts(t, s, key("A", "m"), x, api.OK)
	deletes(t, s, key("B", "m"), api.OK)
	gone := api.Found{Key: key("A", "z"), Version: api.Version{Number: 3, Stamp: api.MaxStamp, Tick: -1, Value: row(one("Not Normal"))}}
	odd := numbered(key("", ""), -4)
	found := []api.Found{
		gone, numbered(key("C", "a"), 9), numbered(key("A", "z"), 2), numbered(key("B", "m"), 1), numbered(key("A", "m"), 1),
		odd, numbered(key("A", "z"), 1), numbered(key("a", "/"), 1), numbered(key("A", "a"), 8), numbered(key("A", "z"), 2),
	}
	lays(t, s, found, "A", []api.Term{is("n", "x")},
		odd, numbered(key("A", "a"), 8), fresh(key("A", "m"), x), gone, numbered(key("A", "z"), 2), numbered(key("A", "z"), 1), numbered(key("A", "z"), 2),
		numbered(key("C", "a"), 9), numbered(key("a", "/"), 1))
	lays(t, s, found[2:5], "B", nil, numbered(key("A", "z"), 2))
}

// Only what is written of the type, and live, and is taken by the predicate, is laid over; the rest hides what was found all the same.
func TestWhatIsLaid(t *testing.T) {
	s := New()
	x, y := row(one("n", "x", "s|y")), row(one("n", "z"), one("o", ""))
	puts(t, s, key("A", "a"), x, api.OK)
	puts(t, s, key("A", "b"), y, api.OK)
	puts(t, s, key("A", "c"), nil, api.OK)
	deletes(t, s, key("A", "d"), api.OK)
	puts(t, s, key("AA", "a"), x, api.OK)
	puts(t, s, key("B", "a"), x, api.OK)
	a, b, c := fresh(key("A", "a"), x), fresh(key("A", "b"), y), fresh(key("A", "c"), nil)
	var found []api.Found
	for _, k := range s.Keys() {
		found = append(found, numbered(k, 1))
	}
	for _, list := range [][]api.Found{nil, found} {
		lays(t, s, list, "A", nil, a, b, c)
		lays(t, s, list, "B", nil, fresh(key("B", "a"), x))
		lays(t, s, list, "AA", []api.Term{is("n", "y")}, fresh(key("AA", "a"), x))
		lays(t, s, list, "A", []api.Term{is("n", "s|")}, a)
		lays(t, s, list, "A", []api.Term{{Field: "n", Op: api.OpHas}}, a, b)
		lays(t, s, list, "A", []api.Term{{Field: "n", Op: api.OpLacks}}, c)
		lays(t, s, list, "A", []api.Term{{Field: "n", Op: api.OpNot, Text: "z"}}, a, c)
		lays(t, s, list, "A", []api.Term{{Field: "n", Op: api.OpHas}, {Field: "o", Op: api.OpHas}}, b)
		// Predicates that may not be take what pred.Match says.
		lays(t, s, list, "A", []api.Term{{Field: "n", Op: 8}})
		lays(t, s, list, "A", []api.Term{{Field: "N N", Op: api.OpLacks}}, a, b, c)
		lays(t, s, list, "A", slices.Repeat([]api.Term{is("n", "x")}, api.MaxTerms+1), a)
		for _, typ := range []string{"", "a", "Aa", "C", "A/a"} {
			lays(t, s, list, typ, nil)
		}
	}
}

// Of a nil set Put and Delete are ErrArg, whatever they are handed; the rest is nothing, and Over found in order.
func TestNil(t *testing.T) {
	var s *Set
	for _, k := range append(wrongKeys(), key("A", "a")) {
		puts(t, s, k, nil, api.ErrArg)
		puts(t, s, k, wrongValues()[0], api.ErrArg)
		deletes(t, s, k, api.ErrArg)
		forgets(t, s, k, false)
		gets(t, s, k, nil, false, false)
	}
	has(t, s)
	found := []api.Found{numbered(key("B", "a"), 1), numbered(key("A", "b"), 2), numbered(key("", "c"), 3), numbered(key("A", "b"), 1), numbered(key("A", "a"), 7)}
	want := []api.Found{found[2], found[4], found[1], found[3], found[0]}
	lays(t, s, found, "A", []api.Term{is("n", "x")}, want...)
	lays(t, s, found, "", nil, want...)
	lays(t, s, nil, "A", nil)
}

// Two sets have nothing of each other.
func TestSetsApart(t *testing.T) {
	s, other := New(), New()
	puts(t, s, key("A", "a"), nil, api.OK)
	has(t, other)
	deletes(t, other, key("A", "b"), api.OK)
	has(t, s, key("A", "a"))
}
