package script

import (
	"fmt"
	"reflect"
	"testing"

	"folio/api"
	"folio/server"
)

// lists calls f with each list that hangs on a thing, the inner ones of it first, in the spare room too.
func lists(v reflect.Value, f func(whole reflect.Value)) {
	switch v.Kind() {
	case reflect.Struct:
		for i := range v.NumField() {
			lists(v.Field(i), f)
		}
	case reflect.Slice:
		whole := v.Slice(0, v.Cap())
		for i := range whole.Len() {
			lists(whole.Index(i), f)
		}
		f(whole)
	}
}

// garble makes a thing other than it was, in place; its lists are left as they are.
func garble(v reflect.Value) {
	switch v.Kind() {
	case reflect.Struct:
		for i := range v.NumField() {
			garble(v.Field(i))
		}
	case reflect.String:
		v.SetString("spoilt")
	case reflect.Int, reflect.Int64:
		v.SetInt(v.Int() + 77)
	case reflect.Uint64:
		v.SetUint(v.Uint() + 77)
	case reflect.Bool:
		v.SetBool(!v.Bool())
	}
}

// roomy is a copy of a thing in memory of its own, with spare room behind each list, which is not zero.
func roomy[T any](x T) T {
	return roomyValue(reflect.ValueOf(x)).Interface().(T)
}

func roomyValue(v reflect.Value) reflect.Value {
	own := reflect.New(v.Type()).Elem()
	own.Set(v)
	switch v.Kind() {
	case reflect.Struct:
		for i := range v.NumField() {
			own.Field(i).Set(roomyValue(v.Field(i)))
		}
	case reflect.Slice:
		list := reflect.MakeSlice(v.Type(), v.Len()+3, v.Len()+3)
		for i := range v.Len() {
			list.Index(i).Set(roomyValue(v.Index(i)))
		}
		for i := range 3 {
			garble(list.Index(v.Len() + i))
		}
		own.Set(list.Slice(0, v.Len()))
	}
	return own
}

// all is all that hangs on a thing, spare room too, in words.
func all(x any) string {
	words := spelt(x)
	lists(reflect.ValueOf(x), func(whole reflect.Value) { words += fmt.Sprintf("\n%+v", whole.Interface()) })
	return words
}

// roomful is a script whose play has lists of all kinds.
const roomful = `config 40 8 3 2
0 create A/a n=1 m=2 ; create @x A/b n=2 n=3 ; update B/a r=*@x r=*@x
0 ensure @e A/d n=8 ? n=8 o- ; patch A/a n+=2 n==3 m~ ; search A n? n!9
3 find 9 A n? m? ; search A n? n!9
3 once read A/a ; delete A/b
5 since A 0 ; history B/a 0
pick 0 3 5 0 3 5
vacuum
tick 3
`

// TestArgumentsStay is P20.1 and R3: what Print and Tell are handed is left as it is, its spare room too, whether it can be printed or not.
func TestArgumentsStay(t *testing.T) {
	plays := append(turned(t), parsed(t, roomful), good(t), sized(t, api.MaxScript+1))
	for _, p := range plays {
		p = roomy(p)
		was := all(p)
		if Print(p); all(p) != was {
			t.Errorf("Print changes %.300s", was)
		}
	}
	d := &draw{state: 211}
	events, _ := server.Run(parsed(t, roomful))
	for range 400 {
		l := roomy(events)
		was := all(l)
		if Tell(l); all(l) != was {
			t.Errorf("Tell changes %.300s", was)
		}
		events = []api.Event{d.event(), d.event(), d.event()}
	}
}

// TestAnswersAreNew is P20.1 and R3: no two lists of what Parse answers share memory, their spare room neither, nor one with what it answers another time.
func TestAnswersAreNew(t *testing.T) {
	taken := map[any]int{}
	want := all(parsed(t, roomful))
	for range 4 {
		p := parsed(t, roomful)
		if got := all(p); got != want {
			t.Fatalf("%s, not\n%s", got, want)
		}
		lists(reflect.ValueOf(p), func(whole reflect.Value) {
			for i := range whole.Len() {
				place := whole.Index(i).Addr().Interface()
				if taken[place]++; taken[place] > 1 {
					t.Fatalf("%s shares memory", whole.Type())
				}
			}
		})
		lists(reflect.ValueOf(p), func(whole reflect.Value) {
			for i := range whole.Len() {
				garble(whole.Index(i))
			}
		})
	}
	if len(taken) < 200 {
		t.Error(len(taken))
	}
}

// TestNothingIsKept is P20.1 and R2: what a call answers hangs on its arguments alone, whatever was called ahead.
func TestNothingIsKept(t *testing.T) {
	told, script := did(t, roomful), printed(t, parsed(t, roomful))
	for _, s := range append(broken(), examples()[4].script, examples()[8].script, "") {
		Do(s)
		Parse(s)
		Print(api.Play{})
		Tell([]api.Event{{Kind: api.EvTick, Tick: 9}})
		if got := did(t, roomful); got != told {
			t.Fatalf("behind %q: %s, not\n%s", s, got, told)
		}
		if got := printed(t, parsed(t, roomful)); got != script {
			t.Fatalf("behind %q: %s, not\n%s", s, got, script)
		}
	}
}
