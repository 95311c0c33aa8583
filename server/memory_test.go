package server

import (
	"fmt"
	"reflect"
	"testing"

	"folio/api"
	"folio/store"
)

// lists calls f with each list that hangs on a value, the inner ones of it first, in the spare room too.
func lists(v reflect.Value, f func(list reflect.Value)) {
	switch v.Kind() {
	case reflect.Struct:
		for i := range v.NumField() {
			lists(v.Field(i), f)
		}
	case reflect.Slice:
		whole := v.Slice(0, v.Cap())
		for i := range whole.Len() {
			lists(whole.Index(i), f)
		}
		f(v)
	}
}

// spoil writes over all memory that hangs on what p points at.
func spoil(p any) {
	lists(reflect.ValueOf(p).Elem(), func(list reflect.Value) {
		whole := list.Slice(0, list.Cap())
		for i := range whole.Len() {
			garble(whole.Index(i))
		}
	})
}

// garble makes a thing other than it was, in place; its lists are left to spoil.
func garble(v reflect.Value) {
	switch v.Kind() {
	case reflect.Struct:
		for i := range v.NumField() {
			garble(v.Field(i))
		}
	case reflect.String:
		v.SetString("spoilt")
	case reflect.Int, reflect.Int64:
		v.SetInt(v.Int() + 77)
	case reflect.Uint64:
		v.SetUint(v.Uint() + 77)
	case reflect.Bool:
		v.SetBool(!v.Bool())
	}
}

// roomy is a copy of a value in memory of its own, with spare room behind each list, which is not zero.
func roomy(v reflect.Value) reflect.Value {
	own := reflect.New(v.Type()).Elem()
	own.Set(v)
	switch v.Kind() {
	case reflect.Struct:
		for i := range v.NumField() {
			own.Field(i).Set(roomy(v.Field(i)))
		}
	case reflect.Slice:
		list := reflect.MakeSlice(v.Type(), v.Len()+3, v.Len()+3)
		for i := range v.Len() {
			list.Index(i).Set(roomy(v.Index(i)))
		}
		for i := range 3 {
			garble(list.Index(v.Len() + i))
		}
		own.Set(list.Slice(0, v.Len()))
	}
	return own
}

func roomyPlay(p api.Play) api.Play { return roomy(reflect.ValueOf(p)).Interface().(api.Play) }

// whole is all that hangs on a thing, spare room too, in words.
func whole(x any) string {
	words := fmt.Sprintf("%+v", x)
	lists(reflect.ValueOf(x), func(list reflect.Value) {
		words += fmt.Sprintf("\n%+v", list.Slice(0, list.Cap()).Interface())
	})
	return words
}

// memoryPlay has entries of all kinds, requests that are done, tried again, refused, past, and not fit, and all kinds of actions.
func memoryPlay(t *testing.T) api.Play {
	t.Helper()
	p := scripted(t, `config 40 8 3 2
0 create A/a n=1 ; create A/b n=2 ; create B/a a=0
0 delete A/b ; ensure @e A/d n=8 n=9 r=*@e ? n=8 o- ; ensure @f A/x ? n=3 ; create @c C/c n=1 n=2 r=*@e ; update B/a a=1 r=*@c ; patch A/a n+=2 n+=*@c n==3
0 number A/a 1 ; search A n? ; history A/a 4 ; since A 4 ; at 9 A/a ; find 9 A n? ; search A n? ; read A/a ; read A/q
1 read A/a ; read B/a ; search A n? ; update A/a n=3 n=4
1 once read A/a ; read B/a ; update B/a b=1 b=2
1 patch A/a n==7
2 update A/a n=5 n=6 m=x ; search B
2 since A 0 ; update A/z
2 ensure A/y n=1 ? n?
2 delete A/q if 3 ; update A/q n=1
3 ensure A/k n=8 ? n=8 ; history B/a 9 ; search A r? n=8
pick 0 0 0 0 0 1 1 1 2 3
tick 3
pick 2 2 2 2 1 1 1 1 1 1 1 1
pick 1 0 0 0 0 0 0 0 0 0 0 1 1 1 1 2
vacuum
pick 0 0 0 1 1 2 2 3 0 0
pick 0 8 -1
`)
	p.Clients[3] = append(p.Clients[3], unfit(t)...)
	return p
}

// drive does a play step by step, from New to Close; between is called with what each call has answered, and told are all of it, in words as it was then, and what the store has at the end.
func drive(t *testing.T, p api.Play, between func(l []api.Event)) string {
	t.Helper()
	s := made(t, p)
	defer s.Close()
	words := ""
	note := func(l []api.Event) {
		words += spelt(l)
		between(l)
	}
	actions := append([]api.Action(nil), p.Actions...)
	note(nil)
	for _, a := range actions {
		note(s.Do(a))
	}
	note(s.Rest())
	return words + versions(s.Store())
}

// versions are all that a store has, in words.
func versions(s *store.Store) string {
	x := s.Begin()
	defer x.Give()
	words := fmt.Sprintf("%+v\n", stateOf(s))
	for _, typ := range []string{"A", "B", "C", "spoilt"} {
		l, e := x.Since(typ, s.Floor())
		words += fmt.Sprintln(typ, e)
		for _, f := range l {
			words += tellFind(f) + "\n"
		}
	}
	return words
}

// What the play of these tests is made for is in it: else they would say less.
func TestMemoryPlay(t *testing.T) {
	had := map[string]int{}
	for _, e := range ran(t, memoryPlay(t)) {
		if e.Kind != api.EvAnswer {
			continue
		}
		had[statuses()[e.Answer.Status]]++
		had[fmt.Sprint("tries ", e.Answer.Tries)]++
		for _, r := range e.Answer.Replies {
			had[kinds()[r.Kind]]++
		}
	}
	for _, what := range []string{"success", "unfit", "conflict", "past", "malformed", "several", "tries 2", "found", "made", "put", "dropped", "missing", "list"} {
		if had[what] == 0 {
			t.Error(what, had)
		}
	}
}

// What is handed in is left as it is, its spare room too: P19.5 and R3.
func TestArgumentsStay(t *testing.T) {
	p := roomyPlay(memoryPlay(t))
	was := whole(p)
	drive(t, p, func([]api.Event) {
		if whole(p) != was {
			t.Fatal("changed")
		}
	})
	if ran(t, p); whole(p) != was {
		t.Error("changed by Run")
	}
	p.Actions = make([]api.Action, api.MaxActions+1)
	was = whole(p)
	if _, e := Run(p); e != api.ErrLong || whole(p) != was {
		t.Error("changed by a Run that is refused", e)
	}
}

// What is handed in isn't kept: who writes over it, behind whatever call, changes no event, and nothing in the store: P19.5 and R3.
func TestArgumentsAreNotKept(t *testing.T) {
	want := drive(t, memoryPlay(t), func([]api.Event) {})
	for at := range 70 {
		p, calls := roomyPlay(memoryPlay(t)), 0
		got := drive(t, p, func([]api.Event) {
			if calls == at {
				spoil(&p)
			}
			calls++
		})
		if got != want {
			t.Fatalf("spoilt behind call %d: %s, not\n%s", at, got, want)
		}
	}
}

// What is told is new memory: who writes over it, at once, changes no later event, nothing in the store, and nothing that was handed in: P19.5 and R3.
func TestEventsAreNew(t *testing.T) {
	want := drive(t, memoryPlay(t), func([]api.Event) {})
	p := roomyPlay(memoryPlay(t))
	was := whole(p)
	got := drive(t, p, func(l []api.Event) { spoil(&l) })
	if got != want || whole(p) != was {
		t.Fatalf("%s, not\n%s", got, want)
	}
	first := ran(t, p)
	told := spelt(first)
	spoil(&first)
	if second := ran(t, p); spelt(second) != told || whole(p) != was {
		t.Errorf("%s, not\n%s", spelt(second), told)
	}
}

// apart fails if two lists of what p points at, or of what was looked at ahead of it, share memory.
func apart(t *testing.T, taken map[any]int, p any) {
	t.Helper()
	lists(reflect.ValueOf(p).Elem(), func(list reflect.Value) {
		whole := list.Slice(0, list.Cap())
		for i := range whole.Len() {
			place := whole.Index(i).Addr().Interface()
			if taken[place]++; taken[place] > 1 {
				t.Fatalf("%s shares memory", whole.Type())
			}
		}
	})
}

// No two lists of what is told share memory, nor one of them with what was handed in: P19.5 and R3.
func TestListsAreApart(t *testing.T) {
	p := roomyPlay(memoryPlay(t))
	taken := map[any]int{}
	apart(t, taken, &p)
	drive(t, p, func(l []api.Event) { apart(t, taken, &l) })
	for range 2 {
		l := ran(t, p)
		apart(t, taken, &l)
	}
	if len(taken) < 1000 {
		t.Error(len(taken))
	}
}

// Requests and clients that share lists among them are done, and told, each in lists of its own: P19.5 and R3.
func TestSharedArguments(t *testing.T) {
	r := parsed(t, "update A/a n=1 n=2 ; patch A/b n:=1 ; search A n=1 ; create A/c m=1")
	r.Entries[3].Value = r.Entries[0].Value
	p := api.Play{Config: roomyConfig()}
	requests := []api.Request{r, r, {Once: true, Entries: r.Entries[:3:3]}}
	p.Clients = [][]api.Request{requests, requests[:2], requests}
	taken := map[any]int{}
	l := ran(t, p)
	apart(t, taken, &l)
	words := spelt(l)
	want := drive(t, p, func([]api.Event) {})
	if got := drive(t, p, func(l []api.Event) { spoil(&l) }); got != want || spelt(ran(t, p)) != words {
		t.Errorf("%s, not\n%s", got, want)
	}
}
