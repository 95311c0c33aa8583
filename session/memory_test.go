package session

import (
	"fmt"
	"reflect"
	"testing"

	"folio/api"
	"folio/op"
	"folio/store"
)

// lists calls f with each list that hangs on a value, the inner ones of it first, in the spare room too.
func lists(v reflect.Value, f func(list reflect.Value)) {
	switch v.Kind() {
	case reflect.Struct:
		for i := range v.NumField() {
			lists(v.Field(i), f)
		}
	case reflect.Slice:
		whole := v.Slice(0, v.Cap())
		for i := range whole.Len() {
			lists(whole.Index(i), f)
		}
		f(v)
	}
}

// spoil writes over all memory that hangs on what p points at.
func spoil(p any) {
	lists(reflect.ValueOf(p).Elem(), func(list reflect.Value) {
		whole := list.Slice(0, list.Cap())
		for i := range whole.Len() {
			garble(whole.Index(i))
		}
	})
}

// garble makes a thing other than it was, in place; its lists are left to spoil.
func garble(v reflect.Value) {
	switch v.Kind() {
	case reflect.Struct:
		for i := range v.NumField() {
			garble(v.Field(i))
		}
	case reflect.String:
		v.SetString("spoilt")
	case reflect.Int, reflect.Int64:
		v.SetInt(v.Int() + 77)
	case reflect.Uint64:
		v.SetUint(v.Uint() + 77)
	case reflect.Bool:
		v.SetBool(!v.Bool())
	}
}

// roomy is a copy of a value in memory of its own, with spare room behind each list, which is not zero.
func roomy(v reflect.Value) reflect.Value {
	own := reflect.New(v.Type()).Elem()
	own.Set(v)
	switch v.Kind() {
	case reflect.Struct:
		for i := range v.NumField() {
			own.Field(i).Set(roomy(v.Field(i)))
		}
	case reflect.Slice:
		list := reflect.MakeSlice(v.Type(), v.Len()+3, v.Len()+3)
		for i := range v.Len() {
			list.Index(i).Set(roomy(v.Index(i)))
		}
		for i := range 3 {
			garble(list.Index(v.Len() + i))
		}
		own.Set(list.Slice(0, v.Len()))
	}
	return own
}

func roomyRequest(r api.Request) api.Request {
	return roomy(reflect.ValueOf(r)).Interface().(api.Request)
}

// spelt is all that hangs on a request, spare room too, in words.
func spelt(r api.Request) string {
	words := fmt.Sprintf("%+v", r)
	lists(reflect.ValueOf(r), func(list reflect.Value) {
		words += fmt.Sprintf("\n%+v", list.Slice(0, list.Cap()).Interface())
	})
	return words
}

// memoryLines are requests of all kinds of entries: some that are done, some that fail, one that isn't fit.
func memoryLines() []string {
	all := "delete A/c ; ensure @e A/d n=8 n=9 r=*@e ? n=8 o- ; ensure A/y n=8 ? n=8 ; ensure @f A/x ? m=x n=1 ; create @c C/c n=1 n=2 r=*@f ; update B/a a=1 r=*@c r=*@e ; patch A/a n+=2 n+=*@c m==x ; read A/a ; read C/c"
	asked := "number A/a 1 ; search A n? ; history A/a 0 ; since A 0 ; at 9 A/a ; find 9 A n? ; search A n? ; read A/a ; read A/a ; read A/q ; update B/a a=1 a=2"
	return []string{
		all, asked, "once " + asked,
		all + " ; patch A/e n:=1",
		asked + " ; create C/c r=*@q",
		"ensure A/d n=8 ? n=8 ; ensure A/e n=8 m=8 ? n- ; update A/e n=1",
	}
}

// world is a store in which the lines above find what they ask for.
func world(t *testing.T) *store.Store {
	t.Helper()
	s := small(t)
	lay(t, s, "create A/a n=1 ; create A/b n=2", "update A/a m=x n=1 ; create A/c n=3 n=4", "create B/a a=0")
	return s
}

// rival is committed so that each of the lines above clashes with it that writes B/a.
func rival(t *testing.T, s *store.Store) {
	t.Helper()
	lay(t, s, "update B/a a=rival")
}

// twice does a session that clashes at its first try, if it writes B/a; between is called ahead of each step.
func twice(t *testing.T, s *store.Store, r api.Request, between func(step int)) *Session {
	t.Helper()
	c := New(s, 3, r)
	for step := 0; !c.Ended() && step < 200; step++ {
		if between(step); c.tries == 1 && c.run.Done() {
			rival(t, s)
		}
		c.Step()
	}
	return c
}

// What is handed in is left as it is, its spare room too: P18.5 and R3.
func TestArgumentsStay(t *testing.T) {
	for _, line := range memoryLines() {
		r := roomyRequest(parsed(t, line))
		was := spelt(r)
		c := twice(t, world(t), r, func(int) {})
		c.Answer()
		c.Marks()
		if !op.Equal(r, parsed(t, line)) || spelt(r) != was {
			t.Errorf("%s is changed", line)
		}
	}
}

// What is handed in isn't kept: who writes over it, at whatever step, changes no try, and nothing that is written: P18.5 and R3.
func TestArgumentsAreNotKept(t *testing.T) {
	tries := 0
	for _, line := range memoryLines() {
		s := world(t)
		c := twice(t, s, parsed(t, line), func(int) {})
		want, marks, kept := show(c.Answer()), showMarks(c.Marks()), versions(s)
		tries = max(tries, c.Answer().Tries)
		for at := range 40 {
			s := world(t)
			r := roomyRequest(parsed(t, line))
			c := twice(t, s, r, func(step int) {
				if step == at {
					spoil(&r)
				}
			})
			spoil(&r)
			if got := show(c.Answer()); got != want || showMarks(c.Marks()) != marks || versions(s) != kept {
				t.Fatalf("%s: spoilt ahead of step %d: %s, not %s", line, at, got, want)
			}
		}
	}
	if tries != 2 {
		t.Error(tries)
	}
}

// versions are all that a store has, in words.
func versions(s *store.Store) string {
	x := s.Begin()
	defer x.Give()
	words := ""
	for _, typ := range []string{"A", "B", "C", "spoilt"} {
		l, _ := x.Since(typ, 0)
		words += showReply(api.Reply{Kind: api.RepList, List: l}) + "\n"
	}
	return words
}

// Answers are new memory: who writes over one changes no later one, and nothing in the store: P18.5 and R3.
func TestAnswersAreNew(t *testing.T) {
	for _, line := range memoryLines() {
		s := world(t)
		c := twice(t, s, parsed(t, line), func(int) {})
		want, marks, kept := show(c.Answer()), showMarks(c.Marks()), versions(s)
		for range 3 {
			a, m := c.Answer(), c.Marks()
			spoil(&a)
			spoil(&m)
			if show(c.Answer()) != want || showMarks(c.Marks()) != marks || versions(s) != kept {
				t.Fatalf("%s: %s, %s, %s", line, show(c.Answer()), showMarks(c.Marks()), versions(s))
			}
		}
	}
}

// No two lists of an answer, nor of two answers, share memory: P18.5 and R3.
func TestListsAreApart(t *testing.T) {
	for _, line := range memoryLines() {
		c := twice(t, world(t), parsed(t, line), func(int) {})
		taken := map[any]int{}
		for range 2 {
			a, m := c.Answer(), c.Marks()
			for _, p := range []any{&a, &m} {
				lists(reflect.ValueOf(p).Elem(), func(list reflect.Value) {
					whole := list.Slice(0, list.Cap())
					for i := range whole.Len() {
						place := whole.Index(i).Addr().Interface()
						if taken[place]++; taken[place] > 1 {
							t.Fatalf("%s: %s shares memory", line, whole.Type())
						}
					}
				})
			}
		}
		if c.Answer().Status == api.Success && len(taken) < 40 {
			t.Error(line, len(taken))
		}
	}
}
