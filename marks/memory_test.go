package marks

import (
	"slices"
	"testing"

	"folio/api"
)

// What stands in the spare room of arguments, where a call must leave it.
var (
	spareKey    = api.Key{Type: "spare", ID: "spare"}
	spareTerm   = api.Term{Field: "spare", Op: 77, Text: "spare"}
	spareRange  = api.Range{Type: "spare", Pred: []api.Term{spareTerm}}
	spareField  = api.Field{Name: "spare", Texts: []string{"spare"}}
	spareChange = api.Change{Key: spareKey, IsLive: true, Is: []api.Field{spareField}}
)

// roomy is a list in new memory, with spare room.
func roomy[T any](l []T, spare T) []T {
	return append(append(make([]T, 0, len(l)+3), l...), spare, spare, spare)[:len(l)]
}

func roomyRanges(l []api.Range) []api.Range {
	l = roomy(l, spareRange)
	for i := range l {
		l[i].Pred = roomy(l[i].Pred, spareTerm)
	}
	return l
}

func roomyMarks(m api.Marks) api.Marks {
	return api.Marks{Keys: roomy(m.Keys, spareKey), Ranges: roomyRanges(m.Ranges)}
}

func roomyValue(v []api.Field) []api.Field {
	v = roomy(v, spareField)
	for i := range v {
		v[i].Texts = roomy(v[i].Texts, "spare")
	}
	return v
}

func roomyChanges(l []api.Change) []api.Change {
	l = roomy(l, spareChange)
	for i := range l {
		l[i].Was, l[i].Is = roomyValue(l[i].Was), roomyValue(l[i].Is)
	}
	return l
}

func sameField(a, b api.Field) bool { return a.Name == b.Name && slices.Equal(a.Texts, b.Texts) }

func sameChange(a, b api.Change) bool {
	return a.Key == b.Key && a.WasLive == b.WasLive && a.IsLive == b.IsLive && slices.EqualFunc(a.Was, b.Was, sameField) && slices.EqualFunc(a.Is, b.Is, sameField)
}

// kept says whether a list that roomy made of was is as it was, spare room too.
func kept[T any](l, was []T, spare T, same func(a, b T) bool) bool {
	return slices.EqualFunc(l, was, same) && slices.EqualFunc(l[len(l):cap(l)], []T{spare, spare, spare}, same)
}

func sameKey(a, b api.Key) bool { return a == b }

func sameTerm(a, b api.Term) bool { return a == b }

func sameText(a, b string) bool { return a == b }

// untouched fails unless marks that roomyMarks made of was are as they were, spare room too.
func untouched(t *testing.T, what string, m, was api.Marks) {
	t.Helper()
	if !kept(m.Keys, was.Keys, spareKey, sameKey) || !kept(m.Ranges, was.Ranges, spareRange, alike) {
		t.Fatalf("%s has changed %v to %v", what, was, m)
	}
	for i, r := range m.Ranges {
		if !kept(r.Pred, was.Ranges[i].Pred, spareTerm, sameTerm) {
			t.Fatalf("%s has changed the range %v", what, was.Ranges[i])
		}
	}
}

func untouchedValue(t *testing.T, what string, v, was []api.Field) {
	t.Helper()
	if !kept(v, was, spareField, sameField) {
		t.Fatalf("%s has changed %v to %v", what, was, v)
	}
	for i, f := range v {
		if !kept(f.Texts, was[i].Texts, "spare", sameText) {
			t.Fatalf("%s has changed the field %v", what, was[i])
		}
	}
}

func untouchedChanges(t *testing.T, what string, l, was []api.Change) {
	t.Helper()
	if !kept(l, was, spareChange, sameChange) {
		t.Fatalf("%s has changed %v to %v", what, was, l)
	}
	for i, c := range l {
		untouchedValue(t, what, c.Was, was[i].Was)
		untouchedValue(t, what, c.Is, was[i].Is)
	}
}

// fill writes over all of a list's memory, spare room too.
func fill[T any](l []T, with T) {
	l = l[:cap(l)]
	for i := range l {
		l[i] = with
	}
}

// spoil writes over all of the marks' memory, spare room too.
func spoil(m api.Marks) {
	fill(m.Keys, key("spoilt", "spoilt"))
	for _, r := range m.Ranges[:cap(m.Ranges)] {
		fill(r.Pred, is("spoilt", "spoilt"))
	}
	fill(m.Ranges, span("spoilt"))
}

// ordered are marks as calls make them; unordered have all that any lists may have.
func ordered() api.Marks {
	return api.Marks{Keys: keys(key("A", "a"), key("B", "b")), Ranges: spans(span("A", is("n", "x")), span("A"), span("C", is("m", "x"), is("n", "y")))}
}

func unordered() api.Marks {
	return api.Marks{Keys: keys(key("C", "a"), key("A", "b"), key("C", "a"), key("A", "a")), Ranges: spans(span("B", is("n", "x")), span("A"), span("B", is("n", "x")), span("A", is("n", "x")), span("A"))}
}

// makers are the calls that answer marks, of two marks.
func makers() []func(a, b api.Marks) api.Marks {
	return []func(a, b api.Marks) api.Marks{
		Union,
		func(a, b api.Marks) api.Marks { return Key(a, key("B", "a")) },
		func(a, b api.Marks) api.Marks { return Key(a, key("A", "a")) },
		func(a, b api.Marks) api.Marks {
			r := b.Ranges[:1][0]
			return Range(a, r.Type, r.Pred)
		},
		func(a, b api.Marks) api.Marks { return Range(a, "Z", b.Ranges[0].Pred) },
	}
}

// What is handed in is left as it is, spare room too, and is not in the answer: R3.
func TestArgumentsStay(t *testing.T) {
	for n, maker := range makers() {
		for _, first := range []func() api.Marks{ordered, unordered, func() api.Marks { return api.Marks{} }} {
			for _, second := range []func() api.Marks{ordered, unordered} {
				a, b := roomyMarks(first()), roomyMarks(second())
				got := maker(a, b)
				untouched(t, "maker", a, first())
				untouched(t, "maker", b, second())
				spoil(a)
				spoil(b)
				if want := maker(first(), second()); !alikes(got, want) {
					t.Fatalf("maker %d tells its arguments' memory: %v; want %v", n, got, want)
				}
			}
		}
	}
}

// An answer is new memory, spare room too; no two of its lists share any: R3.
func TestAnswersApart(t *testing.T) {
	for n, maker := range makers() {
		for _, first := range []func() api.Marks{ordered, unordered} {
			a, b := roomyMarks(first()), roomyMarks(ordered())
			spoil(maker(a, b))
			untouched(t, "what a maker told", a, first())
			untouched(t, "what a maker told", b, ordered())
			want := maker(first(), ordered())
			for i := range want.Ranges {
				got := maker(first(), ordered())
				for j, r := range got.Ranges {
					if i != j {
						fill(r.Pred, is("spoilt", "spoilt"))
					}
				}
				if !alike(got.Ranges[i], want.Ranges[i]) {
					t.Fatalf("maker %d: the range %v shares memory with another", n, got.Ranges[i])
				}
			}
		}
	}
}

// Ranges that share one predicate's memory in an argument share none in an answer.
func TestSharedPredicates(t *testing.T) {
	p := []api.Term{is("n", "x")}
	m := api.Marks{Ranges: spans(span("A", p...), span("B", p...), span("A", p...))}
	for n, got := range []api.Marks{Key(m, key("A", "a")), Range(m, "C", p), Range(m, "A", p), Union(m, m), Union(m, api.Marks{Ranges: spans(span("C", p...))})} {
		fill(got.Ranges[0].Pred, is("spoilt", "spoilt"))
		for _, r := range got.Ranges[1:] {
			if !slices.Equal(r.Pred, []api.Term{is("n", "x")}) {
				t.Errorf("answer %d: two ranges share memory: %v", n, got)
			}
		}
	}
	if !slices.Equal(p, []api.Term{is("n", "x")}) {
		t.Error("an answer shares memory with its argument:", p)
	}
}

// Asking changes nothing of what is asked, spare room too; the keys of Which are new memory.
func TestAskingLeaves(t *testing.T) {
	x := row(one("n", "x", "y"))
	changes := func() []api.Change {
		return []api.Change{put(key("C", "a"), x, nil), made(key("B", "z"), x), {Key: key("A", "a")}, gone(key("A", "z"), row(one("m", "x"), one("n", "x"))), made(key("B", "z"), x)}
	}
	for _, marks := range []func() api.Marks{ordered, unordered} {
		m, other, l := roomyMarks(marks()), roomyMarks(marks()), roomyChanges(changes())
		Hits(m, l)
		Equal(m, other)
		for _, r := range m.Ranges {
			for _, c := range l {
				Touches(r, c)
			}
		}
		fill(Which(m, l), key("spoilt", "spoilt"))
		untouched(t, "asking", m, marks())
		untouched(t, "asking", other, marks())
		untouchedChanges(t, "asking", l, changes())
		told := Which(m, l)
		fill(l, spareChange)
		spoil(m)
		if !slices.Equal(told, Which(marks(), changes())) {
			t.Error("Which tells its arguments' memory:", told)
		}
	}
}
