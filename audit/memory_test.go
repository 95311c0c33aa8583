package audit

import (
	"fmt"
	"reflect"
	"slices"
	"testing"

	"folio/api"
)

// lists calls f with each list that hangs on a value, the inner ones of it first, in the spare room too.
func lists(v reflect.Value, f func(list reflect.Value)) {
	switch v.Kind() {
	case reflect.Struct:
		for i := range v.NumField() {
			lists(v.Field(i), f)
		}
	case reflect.Slice:
		whole := v.Slice(0, v.Cap())
		for i := range whole.Len() {
			lists(whole.Index(i), f)
		}
		f(v)
	}
}

// spoil writes over all memory that hangs on what p points at.
func spoil(p any) {
	lists(reflect.ValueOf(p).Elem(), func(list reflect.Value) {
		whole := list.Slice(0, list.Cap())
		for i := range whole.Len() {
			garble(whole.Index(i))
		}
	})
}

// garble makes a thing other than it was, in place; its lists are left to spoil.
func garble(v reflect.Value) {
	switch v.Kind() {
	case reflect.Struct:
		for i := range v.NumField() {
			garble(v.Field(i))
		}
	case reflect.String:
		v.SetString("spoilt")
	case reflect.Int, reflect.Int64:
		v.SetInt(v.Int() + 77)
	case reflect.Uint64:
		v.SetUint(v.Uint() + 77)
	case reflect.Bool:
		v.SetBool(!v.Bool())
	}
}

// roomy is a copy of a value in memory of its own, with spare room behind each list, which is not zero.
func roomy[T any](x T) T { return roomed(reflect.ValueOf(x)).Interface().(T) }

func roomed(v reflect.Value) reflect.Value {
	own := reflect.New(v.Type()).Elem()
	own.Set(v)
	switch v.Kind() {
	case reflect.Struct:
		for i := range v.NumField() {
			own.Field(i).Set(roomed(v.Field(i)))
		}
	case reflect.Slice:
		list := reflect.MakeSlice(v.Type(), v.Len()+3, v.Len()+3)
		for i := range v.Len() {
			list.Index(i).Set(roomed(v.Index(i)))
		}
		for i := range 3 {
			garble(list.Index(v.Len() + i))
		}
		own.Set(list.Slice(0, v.Len()))
	}
	return own
}

// whole is all that hangs on a thing, spare room too, in words.
func whole(x any) string {
	words := fmt.Sprintf("%+v", x)
	lists(reflect.ValueOf(x), func(list reflect.Value) {
		words += fmt.Sprintf("\n%+v", list.Slice(0, list.Cap()).Interface())
	})
	return words
}

// apart fails if two lists of what p points at, or of what was looked at ahead of it, share memory.
func apart(t *testing.T, taken map[any]int, p any) {
	t.Helper()
	lists(reflect.ValueOf(p).Elem(), func(list reflect.Value) {
		whole := list.Slice(0, list.Cap())
		for i := range whole.Len() {
			place := whole.Index(i).Addr().Interface()
			if taken[place]++; taken[place] > 1 {
				t.Fatalf("%s shares memory", whole.Type())
			}
		}
	})
}

// memoryRun has entries of all kinds, keys that are written several times, marks with keys and ranges, answers that are no nodes, and one that was answered badly.
func memoryRun(t *testing.T) []api.Event {
	t.Helper()
	l := played(t, `config 40 8 3 2
0 create A/a n=1 ; create A/b n=2 ; create B/a a=0
0 delete A/b ; ensure @e A/d n=8 n=9 r=*@e ? n=8 o- ; ensure @f A/x ? n=3 ; create @c C/c n=1 n=2 r=*@e ; update B/a a=1 r=*@c ; patch A/a n+=2 n+=*@c n==3
0 number A/a 1 ; search A n? ; history A/a 4 ; since A 4 ; at 9 A/a ; find 9 A n? ; search A n? ; read A/a ; read A/q
1 read A/a ; read B/a ; search A n? ; update A/a n=3 n=4
1 once read A/a ; read B/a ; update B/a b=1 b=2
1 patch A/a n==7
2 update A/a n=5 n=6 m=x ; search B n=1 m?
2 since A 0 ; update A/z
2 ensure A/y n=1 ? n?
3 delete A/q if 3 ; update A/q n=1
pick 0 0 0 0 0 1 1 1 2 3
tick 3
pick 2 2 2 2 1 1 1 1 1 1 1 1
pick 1 0 0 0 0 0 0 0 0 0 0 1 1 1 1 2
`)
	at := slices.IndexFunc(l, func(e api.Event) bool { return e.Kind == api.EvAnswer && len(e.Answer.Replies) > 2 })
	v := &l[at].Answer.Replies[0].List[0].Version
	v.Tick++
	return l
}

// What the run of these tests is made for is in it: else they would say less.
func TestMemoryRun(t *testing.T) {
	had := map[string]int{}
	l := memoryRun(t)
	for _, n := range nodesOf(t, l) {
		had[fmt.Sprint("status ", n.Answer.Status)]++
		had["keys"] += len(n.Marks.Keys)
		for _, r := range n.Marks.Ranges {
			had["terms"] += len(r.Pred)
		}
		for _, e := range n.Request.Entries {
			had["edits"] += len(e.Edits)
		}
		for _, c := range n.Changes {
			had["was"] += len(c.Was)
			had["is"] += len(c.Is)
		}
	}
	for _, what := range []string{"status 1", "status 5", "status 6", "keys", "terms", "edits", "was", "is"} {
		if had[what] == 0 {
			t.Error(what, had)
		}
	}
	if bad, ok, e := Verify(l); len(bad) == 0 || !ok || e != api.OK {
		t.Error(bad, ok, e)
	}
}

// all is what all four functions answer, of events and of nodes.
func all(l []api.Event, n []Node) string {
	nodes, e := Nodes(l)
	order, ok := Order(n)
	bad, fine, no := Verify(l)
	words := fmt.Sprintln(spelt(nodes), e, order, ok, bad, fine, no)
	for _, a := range n {
		for _, b := range n {
			words += fmt.Sprintln(Ahead(a, b))
		}
	}
	return words
}

// What is handed in is left as it is, its spare room too: P22.4 and R3.
func TestArgumentsStay(t *testing.T) {
	for _, l := range [][]api.Event{memoryRun(t), append(memoryRun(t), api.Event{})} {
		l = roomy(l)
		n := roomy(nodesOf(t, memoryRun(t)))
		was, wasNodes := whole(l), whole(n)
		for range 2 {
			if all(l, n); whole(l) != was || whole(n) != wasNodes {
				t.Error("changed")
			}
		}
	}
}

// What is handed in isn't kept: who writes over it later changes neither what was answered nor what will be: P22.4 and R3.
func TestNothingIsKept(t *testing.T) {
	l := memoryRun(t)
	want := all(l, nodesOf(t, l))
	spoilt := roomy(l)
	n := nodesOf(t, spoilt)
	words := spelt(n)
	own := roomy(n)
	all(spoilt, own)
	spoil(&spoilt)
	spoil(&own)
	if spelt(n) != words || all(l, n) != want {
		t.Error("changed")
	}
	all(spoilt, own)
	if all(l, n) != want {
		t.Error("changed")
	}
}

// Answers are new memory: who writes over one changes no later answer, nor what was handed in: P22.4 and R3.
func TestAnswersAreNew(t *testing.T) {
	l := roomy(memoryRun(t))
	was := whole(l)
	first := nodesOf(t, l)
	want := all(l, first)
	second := nodesOf(t, l)
	spoil(&second)
	order, _ := Order(first)
	spoil(&order)
	bad, _, _ := Verify(l)
	spoil(&bad)
	if whole(l) != was || all(l, first) != want {
		t.Error("changed")
	}
}

// No two lists of an answer share memory, nor do those of two answers, nor any with what was handed in: P22.4 and R3.
func TestListsAreApart(t *testing.T) {
	l := roomy(memoryRun(t))
	taken := map[any]int{}
	apart(t, taken, &l)
	for range 2 {
		n := nodesOf(t, l)
		apart(t, taken, &n)
		order, _ := Order(n)
		apart(t, taken, &order)
		bad, _, _ := Verify(l)
		apart(t, taken, &bad)
	}
	if len(taken) < 500 {
		t.Error(len(taken))
	}
}

// Events that share lists among them are told in lists apart: P22.4 and R3.
func TestSharedArguments(t *testing.T) {
	value := roomy(row(one("a", "1", "2"), one("n", "1", "2")))
	value[1].Texts = value[0].Texts
	terms, edits := make([]api.Term, 2, 5), make([]api.Edit, 2, 5)
	ranges := roomy([]api.Range{{Type: "A"}, {Type: "B"}})
	ranges[0].Pred, ranges[1].Pred = terms, terms
	entries := []api.Entry{{Value: value, Pred: terms, Edits: edits}, {Value: value, Pred: terms, Edits: edits}}
	found := []api.Found{live(key("A", "a"), value...), live(key("A", "b"), value...)}
	found[0].Version.Value, found[1].Version.Value = value, value
	replies := []api.Reply{reply(api.RepPut, found[0]), reply(api.RepFound), reply(api.RepMade)}
	replies[1].List, replies[2].List = found[1:], found[1:]
	l := asks(0, 4)
	for i := range l {
		l[i].Request.Entries, l[i].Answer.Replies = entries, replies
		l[i].Answer.Stamp = uint64(i)
		l[i].Marks.Ranges, l[i].Marks.Keys = ranges, make([]api.Key, 3, 5)
		if i > 0 {
			l[i].Marks.Keys = l[0].Marks.Keys
		}
	}
	was := whole(l)
	taken := map[any]int{}
	for range 2 {
		n := nodesOf(t, l)
		if len(n) != 4 || len(n[3].Changes) != 2 || !n[3].Changes[1].WasLive || !n[3].Changes[1].IsLive || whole(l) != was {
			t.Fatalf("%.300v", n)
		}
		apart(t, taken, &n)
		spoil(&n)
	}
	if whole(l) != was {
		t.Error("changed")
	}
}
