package chain

import (
	"math"
	"slices"
	"strconv"
	"strings"
	"testing"

	"folio/api"
)

func one(name string, texts ...string) api.Field { return api.Field{Name: name, Texts: texts} }
func row(fields ...api.Field) []api.Field        { return fields }
func sameField(a, b api.Field) bool              { return a.Name == b.Name && slices.Equal(a.Texts, b.Texts) }
func same(a, b []api.Field) bool                 { return slices.EqualFunc(a, b, sameField) }

func sameVersion(a, b api.Version) bool {
	return a.Number == b.Number && a.Stamp == b.Stamp && a.Tick == b.Tick && a.Live == b.Live && same(a.Value, b.Value)
}

func sameList(a, b []api.Version) bool { return slices.EqualFunc(a, b, sameVersion) }

// numbers are a list's numbers.
func numbers(l []api.Version) []int {
	var n []int
	for _, v := range l {
		n = append(n, v.Number)
	}
	return n
}

// The chapter's examples, in their order, are P6.1.
func TestExamples(t *testing.T) {
	c := New()
	put := func(stamp uint64, tick int64, live bool, v []api.Field, number int, want api.Errno) {
		t.Helper()
		if n, e := c.Put(stamp, tick, live, v); n != number || e != want {
			t.Errorf("Put(%d, %d, %t, %q) = %d, %d; want %d, %d", stamp, tick, live, v, n, e, number, want)
		}
	}
	at := func(stamp uint64, want api.Version, there bool) {
		t.Helper()
		if v, ok := c.At(stamp); !sameVersion(v, want) || ok != there {
			t.Errorf("At(%d) = %#v, %t; want %#v, %t", stamp, v, ok, want, there)
		}
	}
	x, y := row(one("a", "x")), row(one("a", "y"))
	first := api.Version{Number: 1, Stamp: 3, Tick: 0, Live: true, Value: x}
	second := api.Version{Number: 2, Stamp: 5, Tick: 1, Live: true, Value: y}
	third := api.Version{Number: 3, Stamp: 8, Tick: 2}
	fourth := api.Version{Number: 4, Stamp: 9, Tick: 2, Live: true}
	put(3, 0, true, x, 1, api.OK)
	put(5, 1, true, y, 2, api.OK)
	put(5, 1, true, y, 0, api.ErrOld)
	put(8, 2, false, nil, 3, api.OK)
	put(9, 2, false, nil, 0, api.ErrNone)
	put(9, 2, true, nil, 4, api.OK)
	at(2, api.Version{}, false)
	at(4, first, true)
	at(8, third, true)
	if l := c.Since(5); !sameList(l, []api.Version{third, fourth}) {
		t.Errorf("Since(5) = %#v", l)
	}
	if n := c.Prune(6); n != 1 {
		t.Errorf("Prune(6) = %d; want 1", n)
	}
	if v, ok := c.Number(1); ok || !sameVersion(v, api.Version{}) {
		t.Errorf("Number(1) = %#v, %t; want none", v, ok)
	}
	at(4, api.Version{}, false)
	at(5, second, true)
	if n := c.Prune(6); n != 0 {
		t.Errorf("Prune(6) again = %d; want 0", n)
	}
	if n := c.Prune(100); n != 2 {
		t.Errorf("Prune(100) = %d; want 2", n)
	}
	if l := c.All(); !sameList(l, []api.Version{fourth}) {
		t.Errorf("All() = %#v; want number 4 alone", l)
	}
}

// many are n fields with rising names.
func many(n int) []api.Field {
	var v []api.Field
	for i := range n {
		v = append(v, one("f"+strconv.Itoa(100+i), "x"))
	}
	return v
}

func times(text string, n int) []string { return slices.Repeat([]string{text}, n) }

// greatest is a normal value at all of its limits.
func greatest() []api.Field {
	v := many(api.MaxFields)
	for i := range v {
		v[i].Name += strings.Repeat("x", api.MaxName-len(v[i].Name))
		v[i].Texts = times(strings.Repeat("t", api.MaxText), api.MaxTexts)
	}
	return v
}

// amiss are values that aren't normal.
func amiss() [][]api.Field {
	return [][]api.Field{
		row(one("a")),
		row(one("", "x")),
		row(one("A", "x")),
		row(one("a b", "x")),
		row(one(strings.Repeat("a", api.MaxName+1), "x")),
		row(one("b", "x"), one("a", "x")),
		row(one("a", "x"), one("a", "y")),
		row(one("a", "x"), one("b")),
		row(one("a", strings.Repeat("x", api.MaxText+1))),
		row(one("a", times("x", api.MaxTexts+1)...)),
		many(api.MaxFields + 1),
	}
}

// What is wrong is ErrOld, then ErrField, then ErrNone, and changes nothing: P6.1, R5 and R6.
func TestPutErrors(t *testing.T) {
	good, wrong := row(one("a", "x")), row(one("a"))
	type call struct {
		stamp uint64
		live  bool
		v     []api.Field
		want  api.Errno
	}
	none := New()
	live := New()
	live.Put(5, 1, true, good)
	dead := New()
	dead.Put(4, 1, true, good)
	dead.Put(5, 1, false, nil)
	full := New()
	full.Put(api.MaxStamp, 1, true, good)
	for _, row := range []struct {
		what  string
		c     *Chain
		calls []call
	}{
		{"none put", none, []call{
			{0, true, good, api.ErrOld}, {0, true, wrong, api.ErrOld}, {0, false, nil, api.ErrOld}, {0, false, wrong, api.ErrOld},
			{1, true, wrong, api.ErrField}, {api.MaxStamp, true, wrong, api.ErrField},
			{1, false, nil, api.ErrNone}, {1, false, good, api.ErrNone}, {1, false, wrong, api.ErrNone},
		}},
		{"last is live", live, []call{
			{0, true, good, api.ErrOld}, {4, true, good, api.ErrOld}, {5, true, good, api.ErrOld}, {5, true, wrong, api.ErrOld}, {5, false, nil, api.ErrOld}, {0, false, wrong, api.ErrOld},
			{6, true, wrong, api.ErrField},
		}},
		{"last is not live", dead, []call{
			{0, true, good, api.ErrOld}, {4, true, good, api.ErrOld}, {5, true, good, api.ErrOld}, {5, true, wrong, api.ErrOld}, {5, false, nil, api.ErrOld}, {5, false, wrong, api.ErrOld},
			{6, true, wrong, api.ErrField},
			{6, false, nil, api.ErrNone}, {6, false, good, api.ErrNone}, {6, false, wrong, api.ErrNone},
		}},
		{"last has the greatest stamp", full, []call{
			{0, true, good, api.ErrOld}, {api.MaxStamp - 1, true, good, api.ErrOld}, {api.MaxStamp, true, good, api.ErrOld}, {api.MaxStamp, false, nil, api.ErrOld},
		}},
	} {
		was := row.c.All()
		for _, x := range row.calls {
			if n, e := row.c.Put(x.stamp, 7, x.live, x.v); n != 0 || e != x.want {
				t.Errorf("%s: Put(%d, 7, %t, %q) = %d, %d; want 0, %d", row.what, x.stamp, x.live, x.v, n, e, x.want)
			}
			if !sameList(row.c.All(), was) {
				t.Fatalf("%s: Put(%d, 7, %t, %q) has changed %#v to %#v", row.what, x.stamp, x.live, x.v, was, row.c.All())
			}
		}
	}
	for _, v := range amiss() {
		if n, e := New().Put(1, 0, true, v); n != 0 || e != api.ErrField {
			t.Errorf("Put of %q = %d, %d; want ErrField", v, n, e)
		}
	}
}

// What may be is put: the limits of values, stamps and ticks, and any value beside not live, of which nothing is told: P6.1 and R5.
func TestPutTaken(t *testing.T) {
	for _, v := range [][]api.Field{nil, {}, row(one("a", "")), row(one("a", "\x00", "\xff")), row(one("a", "y", "x", "y"), one("b", "x")), greatest()} {
		c := New()
		if n, e := c.Put(1, 0, true, v); n != 1 || e != api.OK {
			t.Errorf("Put of %q = %d, %d; want 1", v, n, e)
		}
		if got, ok := c.Last(); !ok || !got.Live || !same(got.Value, v) {
			t.Errorf("Last() behind Put of %q = %#v, %t", v, got, ok)
		}
	}
	for _, tick := range []int64{math.MinInt64, -1, 0, 1, api.MaxTick, api.MaxTick + 1, math.MaxInt64} {
		c := New()
		c.Put(1, 5, true, nil)
		if n, e := c.Put(api.MaxStamp, tick, true, nil); n != 2 || e != api.OK {
			t.Errorf("Put(MaxStamp, %d, true, nil) = %d, %d; want 2", tick, n, e)
		}
		if v, ok := c.At(api.MaxStamp); !ok || v.Tick != tick || v.Stamp != api.MaxStamp {
			t.Errorf("At(MaxStamp) = %#v, %t; want tick %d", v, ok, tick)
		}
		if v, ok := c.At(api.MaxStamp - 1); !ok || v.Number != 1 {
			t.Errorf("At(MaxStamp - 1) = %#v, %t; want number 1", v, ok)
		}
	}
	for _, v := range append(amiss(), nil, row(one("a", "x"))) {
		c := New()
		c.Put(1, 0, true, nil)
		if n, e := c.Put(2, 3, false, v); n != 2 || e != api.OK {
			t.Errorf("Put(2, 3, false, %q) = %d, %d; want 2", v, n, e)
		}
		if got, ok := c.Last(); !ok || !sameVersion(got, api.Version{Number: 2, Stamp: 2, Tick: 3}) {
			t.Errorf("Last() behind Put(2, 3, false, %q) = %#v, %t; want no fields", v, got, ok)
		}
	}
}

// Numbers that no version can have answer none: P6.1.
func TestNumberEdges(t *testing.T) {
	c := New()
	for i := range 5 {
		c.Put(uint64(i+1), 0, true, nil)
	}
	c.Prune(3)
	for _, n := range []int{math.MinInt, math.MinInt + 1, math.MinInt + 2, math.MinInt + 3, -1, 0, 1, 2, 6, 7, math.MaxInt - 1, math.MaxInt} {
		if v, ok := c.Number(n); ok || !sameVersion(v, api.Version{}) {
			t.Errorf("Number(%d) = %#v, %t; want none", n, v, ok)
		}
	}
	for n := 3; n <= 5; n++ {
		if v, ok := c.Number(n); !ok || v.Number != n || v.Stamp != uint64(n) {
			t.Errorf("Number(%d) = %#v, %t", n, v, ok)
		}
	}
}

// A nil chain answers ErrArg to Put, else nothing: P6.4 and R1.
func TestNil(t *testing.T) {
	var c *Chain
	for _, x := range []struct {
		stamp uint64
		live  bool
		v     []api.Field
	}{{1, true, nil}, {0, true, nil}, {1, false, nil}, {1, true, row(one("a"))}} {
		if n, e := c.Put(x.stamp, 0, x.live, x.v); n != 0 || e != api.ErrArg {
			t.Errorf("Put(%d, 0, %t, %q) of nil = %d, %d; want ErrArg", x.stamp, x.live, x.v, n, e)
		}
	}
	for _, n := range []uint64{0, 1, api.MaxStamp} {
		if v, ok := c.At(n); ok || !sameVersion(v, api.Version{}) {
			t.Errorf("At(%d) of nil = %#v, %t", n, v, ok)
		}
		if v, ok := c.Number(int(n)); ok || !sameVersion(v, api.Version{}) {
			t.Errorf("Number(%d) of nil = %#v, %t", int(n), v, ok)
		}
		if l := c.Since(n); len(l) != 0 {
			t.Errorf("Since(%d) of nil = %#v", n, l)
		}
		if n := c.Prune(n); n != 0 {
			t.Errorf("Prune of nil = %d", n)
		}
	}
	if v, ok := c.Last(); ok || !sameVersion(v, api.Version{}) {
		t.Errorf("Last() of nil = %#v, %t", v, ok)
	}
	if l := c.All(); len(l) != 0 || c.Len() != 0 {
		t.Errorf("All(), Len() of nil = %#v, %d", l, c.Len())
	}
}

// Two chains know nothing of each other: R2.
func TestTwo(t *testing.T) {
	a, b := New(), New()
	a.Put(1, 0, true, nil)
	a.Put(2, 0, true, nil)
	if b.Len() != 0 {
		t.Errorf("another chain has %d versions", b.Len())
	}
	if n, e := b.Put(1, 0, true, nil); n != 1 || e != api.OK {
		t.Errorf("Put on another chain = %d, %d; want 1", n, e)
	}
	b.Prune(api.MaxStamp)
	if got := numbers(a.All()); !slices.Equal(got, []int{1, 2}) {
		t.Errorf("numbers = %d; want 1, 2", got)
	}
}
