package bundle

import (
	"slices"
	"testing"

	"folio/api"
	"folio/op"
	"folio/store"
)

// What stands in the spare room of what is handed in.
func spareField() api.Field { return one("spare", "left") }
func spareTerm() api.Term   { return api.Term{Field: "spare", Op: 77, Text: "left"} }
func spareEdit() api.Edit   { return api.Edit{Kind: 77, Field: "spare", Text: "left"} }
func spareEntry() api.Entry { return api.Entry{Kind: 77, Temp: "spare"} }
func spareFound() api.Found { return api.Found{Key: key("spare", "left")} }
func spareReply() api.Reply { return api.Reply{Kind: 77} }

func room[T any](l []T, spare T) []T {
	return append(slices.Clone(l), spare, spare, spare)[:len(l)]
}

// roomyValue is a copy with spare room behind each list.
func roomyValue(v []api.Field) []api.Field {
	v = room(v, spareField())
	for i := range v {
		v[i].Texts = room(v[i].Texts, "left")
	}
	return v
}

func roomyRequest(r api.Request) api.Request {
	r.Entries = room(r.Entries, spareEntry())
	for i := range r.Entries {
		e := &r.Entries[i]
		e.Value, e.Edits, e.Pred = roomyValue(e.Value), room(e.Edits, spareEdit()), room(e.Pred, spareTerm())
	}
	return r
}

func roomyReplies(l []api.Reply) []api.Reply {
	l = room(l, spareReply())
	for i := range l {
		l[i].List = room(l[i].List, spareFound())
		for j := range l[i].List {
			v := &l[i].List[j].Version
			v.Value = roomyValue(v.Value)
		}
	}
	return l
}

// left says whether three spare ones stand behind a list.
func left[T any](l []T, fine func(T) bool) bool {
	return !slices.ContainsFunc(l[len(l):len(l)+3], func(x T) bool { return !fine(x) })
}

func leftValue(v []api.Field) bool {
	fine := left(v, func(f api.Field) bool { return f.Name == "spare" && slices.Equal(f.Texts, []string{"left"}) })
	for _, f := range v {
		fine = fine && left(f.Texts, func(s string) bool { return s == "left" })
	}
	return fine
}

func leftRequest(r api.Request) bool {
	fine := left(r.Entries, func(e api.Entry) bool {
		return op.Equal(api.Request{Entries: []api.Entry{e}}, api.Request{Entries: []api.Entry{spareEntry()}})
	})
	for _, e := range r.Entries {
		fine = fine && leftValue(e.Value)
		fine = fine && left(e.Edits, func(x api.Edit) bool { return x == spareEdit() })
		fine = fine && left(e.Pred, func(x api.Term) bool { return x == spareTerm() })
	}
	return fine
}

func leftReplies(l []api.Reply) bool {
	fine := left(l, func(r api.Reply) bool { return sameReply(r, spareReply()) })
	for _, r := range l {
		fine = fine && left(r.List, func(f api.Found) bool { return sameFound(f, spareFound()) })
		for _, f := range r.List {
			fine = fine && leftValue(f.Version.Value)
		}
	}
	return fine
}

// fill writes over all of a list's memory, spare room too.
func fill[T any](l []T, with T) {
	l = l[:cap(l)]
	for i := range l {
		l[i] = with
	}
}

// valueSpoilers write each over the memory of one of a value's lists.
func valueSpoilers(v []api.Field) []func() {
	var out []func()
	for _, f := range v[:cap(v)] {
		out = append(out, func() { fill(f.Texts, "spoilt") })
	}
	return append(out, func() { fill(v, one("spoilt", "spoilt")) })
}

func requestSpoilers(r api.Request) []func() {
	var out []func()
	for _, e := range r.Entries[:cap(r.Entries)] {
		out = append(out, valueSpoilers(e.Value)...)
		out = append(out, func() { fill(e.Edits, spareEdit()) }, func() { fill(e.Pred, spareTerm()) })
	}
	return append(out, func() { fill(r.Entries, spareEntry()) })
}

func replySpoilers(l []api.Reply) []func() {
	var out []func()
	for _, r := range l[:cap(l)] {
		for _, f := range r.List[:cap(r.List)] {
			out = append(out, valueSpoilers(f.Version.Value)...)
		}
		out = append(out, func() { fill(r.List, spareFound()) })
	}
	return append(out, func() { fill(l, spareReply()) })
}

// spoil writes over all that spoilers know.
func spoil(l []func()) {
	for _, f := range l {
		f()
	}
}

// memoryLines are requests of all kinds of entries: two that are done, two that fail, one that isn't fit.
func memoryLines() []string {
	all := "delete A/c ; ensure @e A/d n=8 n=9 r=*@e ? n=8 o- ; ensure A/y n=8 ? n=8 ; ensure @f A/x ? m=x n=1 ; create @c C/c n=1 n=2 r=*@f ; update B/a a=1 r=*@c r=*@e ; patch A/a n+=2 n+=*@c m==x ; read A/a ; read C/c"
	asked := "number A/a 1 ; search A n? ; history A/a 0 ; since A 0 ; at 9 A/a ; find 9 A n? ; search A n? ; read A/a ; read A/a ; read A/q"
	return []string{
		all, asked,
		all + " ; patch A/e n:=1",
		asked + " ; create C/c r=*@q",
		"ensure A/d n=8 ? n=8 ; ensure A/e n=8 m=8 ? n- ; update A/e n=1",
	}
}

// What is handed in is left as it is, its spare room too: P17.5 and R3.
func TestArgumentsStay(t *testing.T) {
	s := world(t)
	for _, line := range memoryLines() {
		was := parsed(t, line)
		r := roomyRequest(was)
		check := func(what string) {
			t.Helper()
			if !op.Equal(r, was) || !leftRequest(r) {
				t.Errorf("%s changes %s", what, line)
			}
		}
		Fit(r)
		check("Fit")
		Order(r)
		check("Order")
		b, _ := New(r)
		check("New")
		for x := s.Begin(); !b.Done(); b.Step(x) {
		}
		check("Step")
		a := Do(s.Begin(), r)
		check("Do")
		l := roomyReplies(a.Replies)
		if Stamped(l, 9, 9); !sameReplies(l, a.Replies) || !leftReplies(l) {
			t.Errorf("Stamped changes the replies of %s", line)
		}
	}
}

// What is handed in isn't kept: who writes over it later changes no run, and nothing that is written: P17.5 and R3.
func TestArgumentsAreNotKept(t *testing.T) {
	s := world(t)
	for _, line := range memoryLines()[:4] {
		want, e := New(parsed(t, line))
		if e != api.OK {
			t.Fatal(line, e)
		}
		y := s.Begin()
		for !want.Step(y) {
		}
		for i := range Order(parsed(t, line)) {
			r := roomyRequest(parsed(t, line))
			b, _ := New(r)
			x := s.Begin()
			for range i {
				b.Step(x)
			}
			spoil(requestSpoilers(r))
			for !b.Step(x) {
			}
			if b.Status() != want.Status() || b.At() != want.At() || !sameReplies(b.Replies(), want.Replies()) || !sameTxn(x, y) {
				t.Fatalf("%s: spoilt behind step %d: %d, %q", line, i, b.Status(), shown(b.Replies()))
			}
		}
		r := roomyRequest(parsed(t, line))
		x := s.Begin()
		a := Do(x, r)
		spoil(requestSpoilers(r))
		if !sameReplies(a.Replies, want.Replies()) || !sameTxn(x, y) {
			t.Fatalf("%s: %q", line, shown(a.Replies))
		}
	}
}

// Answers are new memory: who writes over one changes no run, no transaction, no later answer: P17.5 and R3.
func TestAnswersAreNew(t *testing.T) {
	s := world(t)
	for _, line := range memoryLines()[:2] {
		r := parsed(t, line)
		want := Do(s.Begin(), r).Replies
		b, _ := New(r)
		x, y := s.Begin(), s.Begin()
		for !b.Step(x) {
		}
		spoil(replySpoilers(Do(y, r).Replies))
		spoil(replySpoilers(b.Replies()))
		if !sameReplies(b.Replies(), want) || !sameTxn(x, y) || !unspoilt(x) {
			t.Errorf("%s: %q", line, shown(b.Replies()))
		}
		l := b.Replies()
		spoil(replySpoilers(Stamped(l, 9, 9)))
		if !sameReplies(l, want) {
			t.Errorf("%s: Stamped shares memory: %q", line, shown(l))
		}
		stamped := Stamped(l, 9, 9)
		again := Stamped(want, 9, 9)
		if spoil(replySpoilers(l)); !sameReplies(stamped, again) {
			t.Errorf("%s: Stamped keeps memory: %q", line, shown(stamped))
		}
		fill(Order(r), 99)
		if l := Order(r); slices.Contains(l, 99) {
			t.Error(l)
		}
	}
}

// unspoilt says whether nothing of what a transaction tells is spoilt.
func unspoilt(x *store.Txn) bool {
	for _, typ := range []string{"A", "B", "C"} {
		l, _ := x.Scan(typ, []api.Term{{Field: "spoilt", Op: api.OpHas}})
		if len(l) > 0 {
			return false
		}
	}
	return true
}

// places are the addresses that lists of an answer have taken, by what stands there.
type places struct {
	texts  map[*string]int
	fields map[*api.Field]int
	founds map[*api.Found]int
}

// take counts all places of a list, spare room too, and says whether they were free.
func take[T any](taken map[*T]int, l []T) bool {
	l = l[:cap(l)]
	free := true
	for i := range l {
		free = free && taken[&l[i]] == 0
		taken[&l[i]]++
	}
	return free
}

// apart says whether no two lists of replies share memory.
func (p places) apart(l []api.Reply) bool {
	fine := true
	for _, r := range l {
		fine = take(p.founds, r.List) && fine
		for _, f := range r.List {
			fine = take(p.fields, f.Version.Value) && fine
			for _, g := range f.Version.Value {
				fine = take(p.texts, g.Texts) && fine
			}
		}
	}
	return fine
}

// No two lists of an answer share memory, nor do those of two answers: P17.5 and R3.
func TestListsAreApart(t *testing.T) {
	s := world(t)
	for _, line := range memoryLines()[:2] {
		p := places{map[*string]int{}, map[*api.Field]int{}, map[*api.Found]int{}}
		x := s.Begin()
		b, _ := New(parsed(t, line))
		for !b.Step(x) {
		}
		a := Do(s.Begin(), parsed(t, line))
		for i, l := range [][]api.Reply{a.Replies, b.Replies(), b.Replies(), Stamped(a.Replies, 9, 9), Stamped(a.Replies, 9, 9)} {
			if len(l) == 0 || !p.apart(l) {
				t.Errorf("%s: lists of answer %d share memory", line, i)
			}
		}
	}
	// Also where those that are handed in do.
	v := fields(one("n", "1"), one("o", "2"))
	v[1].Texts = v[0].Texts
	f := api.Found{Key: key("A", "a"), Version: api.Version{Value: v}}
	l := []api.Reply{{List: []api.Found{f, f}}, {}}
	l[1].List = l[0].List
	p := places{map[*string]int{}, map[*api.Field]int{}, map[*api.Found]int{}}
	if !p.apart(Stamped(l, 9, 9)) {
		t.Error("lists of Stamped share memory")
	}
}
