package marks

import (
	"slices"
	"strings"
	"testing"

	"folio/api"
)

func key(typ, id string) api.Key { return api.Key{Type: typ, ID: id} }

func keys(l ...api.Key) []api.Key { return l }

func one(name string, texts ...string) api.Field { return api.Field{Name: name, Texts: texts} }

func row(fields ...api.Field) []api.Field { return fields }

func is(field, text string) api.Term { return api.Term{Field: field, Op: api.OpIs, Text: text} }

func span(typ string, p ...api.Term) api.Range { return api.Range{Type: typ, Pred: p} }

func spans(l ...api.Range) []api.Range { return l }

func made(k api.Key, v []api.Field) api.Change { return api.Change{Key: k, IsLive: true, Is: v} }

func gone(k api.Key, v []api.Field) api.Change { return api.Change{Key: k, WasLive: true, Was: v} }

func put(k api.Key, was, is []api.Field) api.Change {
	return api.Change{Key: k, WasLive: true, Was: was, IsLive: true, Is: is}
}

func alike(a, b api.Range) bool { return a.Type == b.Type && slices.Equal(a.Pred, b.Pred) }

func alikes(a, b api.Marks) bool {
	return slices.Equal(a.Keys, b.Keys) && slices.EqualFunc(a.Ranges, b.Ranges, alike)
}

// tells fails unless what a call has told are these marks.
func tells(t *testing.T, what string, got, want api.Marks) {
	t.Helper()
	if !alikes(got, want) {
		t.Errorf("%s: %v; want %v", what, got, want)
	}
}

func touches(t *testing.T, r api.Range, c api.Change, want bool) {
	t.Helper()
	if got := Touches(r, c); got != want {
		t.Errorf("Touches(%v, %v): %v; want %v", r, c, got, want)
	}
	m := api.Marks{Ranges: spans(r)}
	if !want {
		which(t, m, []api.Change{c})
		return
	}
	which(t, m, []api.Change{c}, c.Key)
}

func which(t *testing.T, m api.Marks, l []api.Change, want ...api.Key) {
	t.Helper()
	if got := Which(m, l); !slices.Equal(got, want) {
		t.Errorf("Which(%v, %v): %v; want %v", m, l, got, want)
	}
	if got := Hits(m, l); got != (len(want) > 0) {
		t.Errorf("Hits(%v, %v): %v; want %v", m, l, got, len(want) > 0)
	}
}

func equal(t *testing.T, a, b api.Marks, want bool) {
	t.Helper()
	if got := Equal(a, b); got != want {
		t.Errorf("Equal(%v, %v): %v; want %v", a, b, got, want)
	}
	if got := Equal(b, a); got != want {
		t.Errorf("Equal(%v, %v): %v; want %v", b, a, got, want)
	}
}

// The chapter's examples.
func TestExamples(t *testing.T) {
	r, a := span("A", is("n", "x")), key("A", "a")
	x, y, z := row(one("n", "x")), row(one("n", "y")), row(one("n", "z"))
	touches(t, r, put(a, x, y), true)
	touches(t, r, made(a, y), false)
	touches(t, r, made(a, row(one("n", "x", "z"))), true)
	for _, c := range []api.Change{put(key("B", "a"), x, y), made(key("B", "a"), x), gone(key("B", "a"), x)} {
		touches(t, r, c, false)
	}
	tells(t, "Key", Key(api.Marks{Keys: keys(key("B", "b"))}, a), api.Marks{Keys: keys(a, key("B", "b"))})
	m := api.Marks{Keys: keys(a), Ranges: spans(r)}
	for _, first := range []api.Change{{Key: a}, made(a, z), gone(a, x), put(a, y, z)} {
		which(t, m, []api.Change{first, put(key("A", "b"), y, x), put(key("A", "c"), y, z)}, a, key("A", "b"))
	}
}

// A change hits a range by what it was or by what it is, where it was or is live; the type must be the range's.
func TestTouches(t *testing.T) {
	r, a := span("A", is("n", "x")), key("A", "a")
	x, y := row(one("n", "x")), row(one("n", "y"))
	touches(t, r, made(a, x), true)
	touches(t, r, gone(a, x), true)
	touches(t, r, gone(a, y), false)
	touches(t, r, put(a, y, x), true)
	touches(t, r, put(a, x, x), true)
	touches(t, r, put(a, y, y), false)
	// What is not live means nothing, whatever stands there.
	touches(t, r, api.Change{Key: a, Was: x, Is: x}, false)
	touches(t, r, api.Change{Key: a, Was: x, IsLive: true, Is: y}, false)
	touches(t, r, api.Change{Key: a, WasLive: true, Was: y, Is: x}, false)
	touches(t, r, api.Change{Key: a, WasLive: true, Was: x, Is: x}, true)
	for _, typ := range []string{"", "a", "AA", "B", "A/a", "A "} {
		touches(t, r, put(key(typ, "a"), x, x), false)
		touches(t, span(typ), put(a, x, x), false)
		touches(t, span(typ), put(key(typ, ""), x, x), true)
	}
}

// A range without terms takes all that is live, and nothing else.
func TestTouchesAll(t *testing.T) {
	r, a := span("A"), key("A", "a")
	touches(t, r, made(a, nil), true)
	touches(t, r, gone(a, nil), true)
	touches(t, r, put(a, nil, nil), true)
	touches(t, r, api.Change{Key: a}, false)
	touches(t, r, api.Change{Key: a, Was: row(one("n", "x")), Is: row(one("n", "x"))}, false)
}

// The terms of one range must hold of one value: not one of what it was, and another of what it is.
func TestTouchesTogether(t *testing.T) {
	r, a := span("A", is("m", "x"), is("n", "x")), key("A", "a")
	m, n := row(one("m", "x")), row(one("n", "x"))
	touches(t, r, put(a, m, n), false)
	touches(t, r, put(a, m, row(one("m", "x"), one("n", "x"))), true)
	touches(t, r, put(a, row(one("n", "x"), one("m", "x")), nil), true)
}

// Predicates and values that may not be take, and are taken, as pred.Match says.
func TestTouchesOdd(t *testing.T) {
	a, x := key("A", "a"), row(one("n", "x"))
	touches(t, span("A", api.Term{Field: "n", Op: 0}), put(a, x, x), false)
	touches(t, span("A", api.Term{Field: "n", Op: 8}), put(a, x, x), false)
	touches(t, span("A", api.Term{Field: "N N", Op: api.OpLacks}), made(a, x), true)
	touches(t, span("A", slices.Repeat([]api.Term{is("n", "x")}, api.MaxTerms+1)...), made(a, x), true)
	touches(t, span("A", is("n", strings.Repeat("x", api.MaxText+1))), made(a, row(one("n", strings.Repeat("x", api.MaxText+1)))), true)
	touches(t, span("A", is("n", "x")), made(a, row(one("n", "y"), one("n", "x"))), false)
	touches(t, span("A", is("n", "x"), api.Term{Field: "n", Op: api.OpNot, Text: "x"}), put(a, x, row(one("n", "y"))), false)
	touches(t, span("A", api.Term{Field: "n", Op: api.OpHas}), made(a, row(one("n"))), false)
	touches(t, span("A", api.Term{Field: "n", Op: api.OpNot, Text: "x"}), put(a, x, nil), true)
}

// A key is hit by all changes of it, by those that change nothing too, and by no other's.
func TestKeysHit(t *testing.T) {
	a, x := key("A", "a"), row(one("n", "x"))
	m := api.Marks{Keys: keys(key("B", "a"), a)}
	for _, c := range []api.Change{{Key: a}, made(a, x), gone(a, x), put(a, x, x)} {
		which(t, m, []api.Change{c}, a)
		for _, k := range []api.Key{key("A", "b"), key("A", ""), key("", "a"), key("AA", "a"), key("A", "aa"), key("b", "a")} {
			c.Key = k
			which(t, m, []api.Change{c})
		}
	}
	// Keys that may not be are keys as well.
	odd := key("a b", "/")
	which(t, api.Marks{Keys: keys(odd)}, []api.Change{{Key: odd}, {Key: key("a b/", "")}}, odd)
	which(t, api.Marks{Keys: keys(api.Key{})}, []api.Change{{}}, api.Key{})
}

// Which tells keys in order, each once, from whatever lists.
func TestWhichRises(t *testing.T) {
	x := row(one("n", "x"))
	m := api.Marks{Keys: keys(key("B", "b"), key("A", "z"), key("A", "z")), Ranges: spans(span("A", is("n", "x")), span("C"), span("C"))}
	which(t, m, []api.Change{
		made(key("C", "b"), nil), {Key: key("C", "a")}, {Key: key("B", "b")}, made(key("A", "b"), x), {Key: key("A", "z")}, gone(key("C", "B"), x),
		made(key("A", "b"), nil), gone(key("A", "b"), x), put(key("A", "y"), nil, x), made(key("A", "z"), x), made(key("D", "a"), x), made(key("B", "a"), x),
	}, key("A", "b"), key("A", "y"), key("A", "z"), key("B", "b"), key("C", "B"), key("C", "b"))
	which(t, m, nil)
	which(t, api.Marks{}, []api.Change{put(key("A", "a"), x, x), {}})
}

// Key leaves the ranges as they are, and puts all keys in order, each once.
func TestKey(t *testing.T) {
	r, s := span("B"), span("A", is("n", "x"))
	m := api.Marks{Ranges: spans(r, s, r)}
	for _, k := range []api.Key{key("B", "a"), key("A", "b"), key("A", "b"), key("Aa", "a"), key("A", ""), key("AA", "z"), {}, key("B", "a")} {
		m = Key(m, k)
	}
	tells(t, "Key", m, api.Marks{Keys: keys(api.Key{}, key("A", ""), key("A", "b"), key("AA", "z"), key("Aa", "a"), key("B", "a")), Ranges: spans(r, s, r)})
	unordered := api.Marks{Keys: keys(key("C", "a"), key("A", "a"), key("C", "a"), key("A", "a"))}
	tells(t, "Key", Key(unordered, key("B", "a")), api.Marks{Keys: keys(key("A", "a"), key("B", "a"), key("C", "a"))})
	tells(t, "Key", Key(unordered, key("A", "a")), api.Marks{Keys: keys(key("A", "a"), key("C", "a"))})
}

// Range leaves the keys and the ranges as they are, and puts this one behind them, if none is the same.
func TestRange(t *testing.T) {
	x, y := is("n", "x"), is("n", "y")
	unordered := keys(key("C", "a"), key("A", "a"), key("C", "a"))
	m := api.Marks{Keys: unordered}
	add := func(typ string, p ...api.Term) { m = Range(m, typ, p) }
	want := spans(span("B", x), span("A", x), span("A", x, y), span("A", y, x), span("A"), span("A", x, x), span("", api.Term{}), span("A", api.Term{Field: "n", Op: api.OpNot, Text: "x"}), span("A", is("m", "x")))
	for _, r := range slices.Concat(want, want) {
		add(r.Type, r.Pred...)
		add(want[0].Type, want[0].Pred...)
	}
	tells(t, "Range", m, api.Marks{Keys: unordered, Ranges: want})
	twice := api.Marks{Ranges: spans(span("A"), span("B", x), span("A"))}
	tells(t, "Range", Range(twice, "B", []api.Term{x}), twice)
	tells(t, "Range", Range(twice, "A", []api.Term{}), twice)
	tells(t, "Range", Range(twice, "B", nil), api.Marks{Ranges: spans(span("A"), span("B", x), span("A"), span("B"))})
}

// Union has the keys of both in order, and each range once, where it stood first.
func TestUnion(t *testing.T) {
	x, y := is("n", "x"), is("n", "y")
	a := api.Marks{Keys: keys(key("C", "a"), key("A", "b"), key("C", "a")), Ranges: spans(span("B"), span("A", x, y), span("B"), span("A"))}
	b := api.Marks{Keys: keys(key("D", "a"), key("A", "a"), key("A", "b"), key("A", "a")), Ranges: spans(span("A"), span("C"), span("A", y, x), span("B"), span("C"), span("A", x))}
	both := keys(key("A", "a"), key("A", "b"), key("C", "a"), key("D", "a"))
	tells(t, "Union", Union(a, b), api.Marks{Keys: both, Ranges: spans(span("B"), span("A", x, y), span("A"), span("C"), span("A", y, x), span("A", x))})
	tells(t, "Union", Union(b, a), api.Marks{Keys: both, Ranges: spans(span("A"), span("C"), span("A", y, x), span("B"), span("A", x), span("A", x, y))})
	alone := api.Marks{Keys: keys(key("A", "b"), key("C", "a")), Ranges: spans(span("B"), span("A", x, y), span("A"))}
	tells(t, "Union", Union(a, api.Marks{}), alone)
	tells(t, "Union", Union(api.Marks{}, a), alone)
	tells(t, "Union", Union(a, a), alone)
	tells(t, "Union", Union(api.Marks{}, api.Marks{}), api.Marks{})
}

// Marks are equal, if their lists have the same in the same places.
func TestEqual(t *testing.T) {
	x, y := is("n", "x"), is("n", "y")
	a, b := key("A", "a"), key("B", "b")
	all := []api.Marks{
		{}, {Keys: keys(a)}, {Keys: keys(b)}, {Keys: keys(a, b)}, {Keys: keys(b, a)}, {Keys: keys(a, a)}, {Keys: keys(api.Key{})}, {Keys: keys(key("A", "b"))},
		{Ranges: spans(span("A"))}, {Ranges: spans(span("B"))}, {Ranges: spans(span(""))}, {Ranges: spans(span("A"), span("A"))}, {Ranges: spans(span("A"), span("B"))}, {Ranges: spans(span("B"), span("A"))},
		{Ranges: spans(span("A", x))}, {Ranges: spans(span("A", y))}, {Ranges: spans(span("A", x, y))}, {Ranges: spans(span("A", y, x))}, {Ranges: spans(span("A", x, x))}, {Ranges: spans(span("B", x))},
		{Ranges: spans(span("A", api.Term{Field: "n", Op: api.OpNot, Text: "x"}))}, {Ranges: spans(span("A", is("m", "x")))}, {Ranges: spans(span("A", x), span("A", y))},
		{Keys: keys(a), Ranges: spans(span("A"))}, {Keys: keys(a), Ranges: spans(span("B"))}, {Keys: keys(b), Ranges: spans(span("A"))},
	}
	for i, m := range all {
		for j, n := range all {
			equal(t, m, n, i == j)
		}
	}
}

// Nil lists and empty ones mean the same: R4.
func TestEmptyLists(t *testing.T) {
	none, empty := api.Marks{}, api.Marks{Keys: []api.Key{}, Ranges: []api.Range{}}
	equal(t, none, empty, true)
	equal(t, api.Marks{Ranges: spans(api.Range{Type: "A"})}, api.Marks{Ranges: spans(api.Range{Type: "A", Pred: []api.Term{}})}, true)
	m := Range(none, "A", nil)
	equal(t, Range(m, "A", []api.Term{}), m, true)
	equal(t, Union(m, api.Marks{Ranges: spans(api.Range{Type: "A", Pred: []api.Term{}})}), m, true)
	equal(t, Union(empty, empty), none, true)
	which(t, empty, []api.Change{})
	touches(t, api.Range{Type: "A", Pred: []api.Term{}}, made(key("A", "a"), []api.Field{}), true)
}
