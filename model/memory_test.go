package model

import (
	"slices"
	"testing"

	"folio/api"
	"folio/op"
)

// What stands in the spare room of what is handed in.
func spareField() api.Field { return one("spare", "left") }
func spareTerm() api.Term   { return api.Term{Field: "spare", Op: 77, Text: "left"} }
func spareEdit() api.Edit   { return api.Edit{Kind: 77, Field: "spare", Text: "left"} }
func spareEntry() api.Entry { return api.Entry{Kind: 77, Temp: "spare"} }
func spareFound() api.Found { return api.Found{Key: key("spare", "left")} }
func spareReply() api.Reply { return api.Reply{Kind: 77} }

func room[T any](l []T, spare T) []T {
	return append(slices.Clone(l), spare, spare, spare)[:len(l)]
}

// roomy is a request with spare room behind each list.
func roomy(r api.Request) api.Request {
	r.Entries = room(r.Entries, spareEntry())
	for i := range r.Entries {
		e := &r.Entries[i]
		e.Value, e.Edits, e.Pred = room(e.Value, spareField()), room(e.Edits, spareEdit()), room(e.Pred, spareTerm())
		for j := range e.Value {
			e.Value[j].Texts = room(e.Value[j].Texts, "left")
		}
	}
	return r
}

// left says whether three spare ones stand behind a list.
func left[T any](l []T, fine func(T) bool) bool {
	return !slices.ContainsFunc(l[len(l):len(l)+3], func(x T) bool { return !fine(x) })
}

// leftAlone says whether nothing behind a request's lists was touched.
func leftAlone(r api.Request) bool {
	fine := left(r.Entries, func(e api.Entry) bool {
		return op.Equal(api.Request{Entries: []api.Entry{e}}, api.Request{Entries: []api.Entry{spareEntry()}})
	})
	for _, e := range r.Entries {
		fine = fine && left(e.Value, func(f api.Field) bool { return f.Name == "spare" && slices.Equal(f.Texts, []string{"left"}) })
		fine = fine && left(e.Edits, func(x api.Edit) bool { return x == spareEdit() })
		fine = fine && left(e.Pred, func(x api.Term) bool { return x == spareTerm() })
		for _, f := range e.Value {
			fine = fine && left(f.Texts, func(s string) bool { return s == "left" })
		}
	}
	return fine
}

// fill writes over all of a list's memory, spare room too.
func fill[T any](l []T, with T) {
	l = l[:cap(l)]
	for i := range l {
		l[i] = with
	}
}

func spoilValue(v []api.Field) {
	for _, f := range v[:cap(v)] {
		fill(f.Texts, "spoilt")
	}
	fill(v, one("spoilt", "spoilt"))
}

func spoilRequest(r api.Request) {
	for _, e := range r.Entries[:cap(r.Entries)] {
		spoilValue(e.Value)
		fill(e.Edits, spareEdit())
		fill(e.Pred, spareTerm())
	}
	fill(r.Entries, spareEntry())
}

func spoilFounds(l []api.Found) {
	for _, f := range l[:cap(l)] {
		spoilValue(f.Version.Value)
	}
	fill(l, spareFound())
}

func spoilReplies(l []api.Reply) {
	for _, r := range l[:cap(l)] {
		spoilFounds(r.List)
	}
	fill(l, spareReply())
}

// memoryLines are requests of all kinds of entries: two that are done, two that fail, one that isn't fit, one that is refused.
func memoryLines() []string {
	all := "delete A/c ; ensure @e A/d n=8 n=9 r=*@e ? n=8 o- ; ensure A/y n=8 ? n=8 ; ensure @f A/x ? m=x n=1 ; create @c C/c n=1 n=2 r=*@f ; update B/a a=1 r=*@c r=*@e ; patch A/a n+=2 n+=*@c m==x ; read A/a ; read C/c"
	asked := "number A/a 1 ; search A n? ; history A/a 0 ; since A 0 ; at 50 A/a ; find 50 A n? ; search A n? ; read A/a ; read A/a ; read A/q"
	return []string{
		all, asked,
		all + " ; patch A/e n:=1",
		asked + " ; create C/c r=*@q",
		"ensure A/d n=8 ? n=8 ; ensure A/e n=8 m=8 ? n- ; update A/e n=1",
		"create C/c ; update A/a n=9 n=8",
	}
}

// What is handed in is left as it is, its spare room too: P21.4 and R3.
func TestArgumentsStay(t *testing.T) {
	for _, line := range memoryLines() {
		for _, stamp := range []uint64{0, 45, 60} {
			r, m := roomy(parsed(t, line)), world(t)
			for range 2 {
				m.Do(r, stamp, 1)
				m.All("A")
				if !op.Equal(r, parsed(t, line)) || !leftAlone(r) {
					t.Errorf("Do changes %s", line)
				}
			}
		}
	}
}

// What is handed in isn't kept: who writes over it later changes nothing: P21.4 and R3.
func TestArgumentsAreNotKept(t *testing.T) {
	for _, line := range memoryLines() {
		m, other := world(t), world(t)
		r := roomy(parsed(t, line))
		a, _ := m.Do(r, 60, 1)
		want, _ := other.Do(parsed(t, line), 60, 1)
		spoilRequest(r)
		if !sameAnswer(a, want) || dump(m) != dump(other) {
			t.Errorf("%s: %.300q, not %.300q", line, allShown(a.Replies), allShown(want.Replies))
		}
	}
}

// Answers are new memory: who writes over one changes no later answer: P21.4 and R3.
func TestAnswersAreNew(t *testing.T) {
	m := world(t)
	for i, line := range memoryLines()[:2] {
		a, _ := m.Do(parsed(t, line), uint64(60+i), 1)
		was := dump(m)
		spoilReplies(a.Replies)
		for _, typ := range []string{"A", "B", "C"} {
			spoilFounds(m.All(typ))
		}
		if dump(m) != was {
			t.Errorf("%s: %.300q, not %.300q", line, dump(m), was)
		}
	}
	// Each reply of a request by itself: what is told behind it is what was written.
	a, _ := m.Do(parsed(t, "update A/a n=5 ; read A/a ; search A n=5"), 99, 0)
	spoilFounds(a.Replies[0].List)
	if want := "found A/a 5.99.0 (n=5)"; shown(a.Replies[1]) != want || len(a.Replies[2].List) != 1 {
		t.Error(allShown(a.Replies))
	}
}

// places are the addresses that lists of an answer have taken, by what stands there.
type places struct {
	texts  map[*string]int
	fields map[*api.Field]int
	founds map[*api.Found]int
}

func newPlaces() places {
	return places{map[*string]int{}, map[*api.Field]int{}, map[*api.Found]int{}}
}

// take counts all places of a list, spare room too, and says whether they were free.
func take[T any](taken map[*T]int, l []T) bool {
	l = l[:cap(l)]
	free := true
	for i := range l {
		free = free && taken[&l[i]] == 0
		taken[&l[i]]++
	}
	return free
}

// apart says whether no two lists of a list of finds share memory, nor any with those ahead.
func (p places) apart(l []api.Found) bool {
	fine := take(p.founds, l)
	for _, f := range l {
		fine = take(p.fields, f.Version.Value) && fine
		for _, g := range f.Version.Value {
			fine = take(p.texts, g.Texts) && fine
		}
	}
	return fine
}

// No two lists of an answer share memory, nor do those of two answers, nor any with what was handed in: P21.4 and R3.
func TestListsAreApart(t *testing.T) {
	p, m := newPlaces(), world(t)
	for i, line := range memoryLines()[:2] {
		r := parsed(t, line)
		for _, e := range r.Entries {
			if !p.apart([]api.Found{{Version: api.Version{Value: e.Value}}}) {
				t.Fatal("the test's own lists share memory")
			}
		}
		a, e := m.Do(r, uint64(60+i), 0)
		if e != api.OK || len(a.Replies) == 0 {
			t.Fatal(a, e)
		}
		for _, reply := range a.Replies {
			if !p.apart(reply.List) {
				t.Errorf("%s: lists share memory", line)
			}
		}
		for _, typ := range []string{"A", "A", "B", "C"} {
			if l := m.All(typ); len(l) == 0 || !p.apart(l) {
				t.Errorf("%s: lists of All share memory", line)
			}
		}
	}
	// Also where those that are handed in do.
	r := parsed(t, "create C/d n=1 o=1 ; update C/e n=1 o=1 ; read C/d ; search C n=1")
	for i := range r.Entries[:2] {
		r.Entries[i].Value = r.Entries[0].Value
		r.Entries[i].Value[1].Texts = r.Entries[0].Value[0].Texts
	}
	a, _ := m.Do(r, 99, 0)
	for _, reply := range a.Replies {
		if !p.apart(reply.List) {
			t.Error("lists share memory where those that are handed in do")
		}
	}
}
