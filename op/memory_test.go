package op

import (
	"slices"
	"testing"

	"folio/api"
)

// What stands in the spare room of what is handed in.
func spareField() api.Field { return one("spare", "left") }
func spareTerm() api.Term   { return term("spare", 77, "left") }
func spareEdit() api.Edit   { return edit(77, "spare", "left") }
func spareEntry() api.Entry { return api.Entry{Kind: 77, Temp: "spare"} }

func room[T any](l []T, spare T) []T {
	return append(slices.Clone(l), spare, spare, spare)[:len(l)]
}

func copiedValue(v []api.Field) []api.Field {
	l := slices.Clone(v)
	for i := range l {
		l[i].Texts = slices.Clone(l[i].Texts)
	}
	return l
}

// copied is a request that shares no list with the one given.
func copied(r api.Request) api.Request {
	r.Entries = slices.Clone(r.Entries)
	for i := range r.Entries {
		e := &r.Entries[i]
		e.Value, e.Edits, e.Pred = copiedValue(e.Value), slices.Clone(e.Edits), slices.Clone(e.Pred)
	}
	return r
}

// roomy is a copy with spare room behind each list, filled with what must stay.
func roomy(r api.Request) api.Request {
	r = copied(r)
	r.Entries = room(r.Entries, spareEntry())
	for i := range r.Entries {
		e := &r.Entries[i]
		e.Value = room(e.Value, spareField())
		for j := range e.Value {
			e.Value[j].Texts = room(e.Value[j].Texts, "left")
		}
		e.Edits, e.Pred = room(e.Edits, spareEdit()), room(e.Pred, spareTerm())
	}
	return r
}

// left says whether three spare ones stand behind a list.
func left[T any](l []T, fine func(T) bool) bool {
	for _, x := range l[len(l) : len(l)+3] {
		if !fine(x) {
			return false
		}
	}
	return true
}

// untouched fails unless r, which roomy made of was, is as it was, spare room too.
func untouched(t *testing.T, what string, r, was api.Request) {
	t.Helper()
	ok := alike(r, was) && left(r.Entries, func(e api.Entry) bool { return alike(request(e), request(spareEntry())) })
	for _, e := range r.Entries {
		ok = ok && left(e.Edits, func(x api.Edit) bool { return x == spareEdit() })
		ok = ok && left(e.Pred, func(x api.Term) bool { return x == spareTerm() })
		ok = ok && left(e.Value, func(f api.Field) bool { return f.Name == "spare" && slices.Equal(f.Texts, []string{"left"}) })
		for _, f := range e.Value {
			ok = ok && left(f.Texts, func(s string) bool { return s == "left" })
		}
	}
	if !ok {
		t.Errorf("%s: changed to %+v; was %+v", what, r, was)
	}
}

// TestArgumentsStay is P16.3: what is handed in is not changed, its spare room neither, whether it may be or not.
func TestArgumentsStay(t *testing.T) {
	l := others()
	for _, x := range examples() {
		l = append(l, x.r)
	}
	b := term("b", api.OpHas, "")
	l = append(l, request(api.Entry{Kind: api.EnSearch, Key: at("A", ""), Pred: all(b, term("a", api.OpHas, ""), b)}),
		request(api.Entry{Kind: api.EnCreate, Key: at("A", "a"), Value: row(one("b", "1"), one("a", "2"), one("b", "3"))}))
	for _, was := range l {
		r := roomy(was)
		May(r)
		untouched(t, "May", r, was)
		Print(r)
		untouched(t, "Print", r, was)
		Equal(r, r)
		Equal(r, was)
		Equal(was, r)
		untouched(t, "Equal", r, was)
		for _, e := range r.Entries {
			Writes(e)
		}
		untouched(t, "Writes", r, was)
	}
}

// spoil overwrites all that a list has, spare room too.
func spoil[T any](l []T, bad T) {
	for i := range l[:cap(l)] {
		l[:cap(l)][i] = bad
	}
}

func spoilValue(v []api.Field) {
	for _, f := range v[:cap(v)] {
		spoil(f.Texts, "spoilt")
	}
	spoil(v, one("spoilt", "spoilt"))
}

// spoilAll overwrites all lists of a request, but for those of the entry with the given place, and for one list of that.
func spoilAll(r api.Request, place, list int) {
	for i, e := range r.Entries[:cap(r.Entries)] {
		if i != place || list != 0 {
			spoilValue(e.Value)
		}
		if i != place || list != 1 {
			spoil(e.Edits, edit(99, "spoilt", "spoilt"))
		}
		if i != place || list != 2 {
			spoil(e.Pred, term("spoilt", 99, "spoilt"))
		}
	}
}

// TestAnswersAreNew is P16.3 and R3: what Parse answers shares nothing with what it answers another time, and no two of its lists share memory.
func TestAnswersAreNew(t *testing.T) {
	const s = "ensure A/a a=1 a=2 b=3 ? a=1 b=3 ; ensure B/b a=1 a=2 b=3 ? a=1 b=3 ; patch C/c a~ b~ c~ ; patch D/d a~ b~ c~ ; find 1 A a? b? ; create E/e a=1 b=2 b=3 c=4"
	want, _ := Parse(s)
	want = copied(want)
	for place := range want.Entries {
		for list := range 3 {
			r, e := Parse(s)
			kept := r.Entries[place]
			spoilAll(r, place, list)
			x, y := kept, want.Entries[place]
			ok := [3]bool{
				slices.EqualFunc(x.Value, y.Value, func(f, g api.Field) bool { return f.Name == g.Name && slices.Equal(f.Texts, g.Texts) }),
				slices.Equal(x.Edits, y.Edits),
				slices.Equal(x.Pred, y.Pred),
			}[list]
			if !ok || e != api.OK {
				t.Errorf("list %d of entry %d shares memory: %+v", list, place, x)
			}
			if list == 0 {
				apart(t, kept.Value)
			}
			spoil(r.Entries, spareEntry())
			if again, e := Parse(s); !alike(again, want) || e != api.OK {
				t.Fatalf("a spoilt answer changes the next: %+v, %v", again, e)
			}
		}
	}
}

// apart fails if the texts of two fields share memory.
func apart(t *testing.T, v []api.Field) {
	t.Helper()
	for i := range v {
		was := slices.Clone(v[i].Texts)
		for j := range v {
			if i != j {
				spoil(v[j].Texts, "spoilt")
			}
		}
		if !slices.Equal(v[i].Texts, was) {
			t.Errorf("the texts of two fields share memory: %q", v)
		}
		spoil(v[i].Texts, "x")
	}
}
