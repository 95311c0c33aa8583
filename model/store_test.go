package model

import (
	"strconv"
	"strings"
	"testing"

	"folio/api"
	"folio/bundle"
	"folio/op"
	"folio/server"
	"folio/store"
)

// beside is a store, and the model that tells the same.
type beside struct {
	t     *testing.T
	store *store.Store
	model *Model
	full  int // how many were Full
	past  int // how many were Past
}

func newBeside(t *testing.T, c api.Config) *beside {
	t.Helper()
	s, e := store.New(c)
	if e != api.OK {
		t.Fatal(e)
	}
	return &beside{t: t, store: s, model: New()}
}

// do does a request in a transaction of its own, and, with the stamp and tick of its commit, in the model. What the limits or the vacuum refuse has no place in the model.
func (b *beside) do(r api.Request, between int64) int {
	b.t.Helper()
	x := b.store.Begin()
	want := bundle.Do(x, r)
	tick := b.store.Tick(between)
	stamp, no := x.Commit()
	if no == api.ErrFull || no == api.ErrSpent {
		b.full++
		return 0
	}
	if want.Status == api.Past {
		b.past++
		return 0
	}
	if no != api.OK {
		b.t.Fatal(no)
	}
	want.Snap = 0
	if stamp > 0 {
		want.Stamp, want.Tick = stamp, tick
		want.Replies = bundle.Stamped(want.Replies, stamp, tick)
	}
	got, e := b.model.Do(r, stamp, want.Tick)
	if e != api.OK || !sameAnswer(got, want) {
		line, _ := op.Print(r)
		b.t.Fatalf("%s: %v, %+v, %.300q, not %+v, %.300q", line, e, got, allShown(got.Replies), want, allShown(want.Replies))
	}
	return got.Status
}

// same fails unless the store has what the model has.
func (b *beside) same() {
	b.t.Helper()
	x := b.store.Begin()
	defer x.Give()
	for _, typ := range []string{"A", "B", "C"} {
		want, _ := x.Scan(typ, nil)
		if got := b.model.All(typ); !sameFounds(got, want) {
			b.t.Fatalf("All(%q): %.300v, not %.300v", typ, got, want)
		}
	}
}

// Drawn requests answer as in a store, one behind the other: P21.2.
func TestAsTheStore(t *testing.T) {
	d := &draw{state: 212}
	statuses := map[int]int{}
	for i := range 200 {
		first := []uint64{0, 0, 7, 30, api.MaxStamp / 2, api.MaxStamp - 1000}[i%6]
		b := newBeside(t, api.Config{Versions: api.MaxVersions, Tracked: i % 9, Tries: 1, First: first})
		for range 100 {
			if d.below(6) == 0 {
				b.store.Tick(int64(d.below(4)))
			}
			statuses[b.do(d.request(t, 6), int64(d.below(2)))]++
		}
		if b.same(); b.model.Count() != b.store.Count() || b.full+b.past > 0 {
			t.Fatal(b.model.Count(), b.store.Count(), b.full, b.past)
		}
	}
	for _, status := range []int{api.Success, api.Exists, api.Mismatch, api.Absent, api.Several, api.Unfit, api.Malformed} {
		if statuses[status] < 40 {
			t.Errorf("status %d was drawn %d times", status, statuses[status])
		}
	}
}

// All pairs of telling entries answer as in a store: P21.2.
func TestAsTheStorePairs(t *testing.T) {
	for _, lines := range starts() {
		for _, one := range pieces() {
			for _, two := range pieces() {
				b := newBeside(t, api.Config{Versions: 99, Tracked: 2, Tries: 1})
				for _, line := range lines {
					b.do(parsed(t, line), 1)
				}
				b.do(parsed(t, one+" ; "+two), 1)
				b.do(parsed(t, two), 0)
				b.do(parsed(t, "since A 0 ; since B 0"), 0)
				b.same()
			}
		}
	}
}

// What the limits refuse, and what the vacuum has made Past, left out, the others answer as in a store: P21.2.
func TestAsTheStoreWithLimits(t *testing.T) {
	d := &draw{state: 213}
	full, past := 0, 0
	for i := range 150 {
		first := []uint64{0, 40, api.MaxStamp - 12}[i%3]
		b := newBeside(t, api.Config{Versions: 3 + i%12, Tracked: i % 3, Tries: 1, First: first})
		for range 80 {
			if d.below(20) == 0 {
				b.store.Vacuum()
			}
			b.do(d.request(t, 4), int64(d.below(2)))
		}
		b.same()
		full, past = full+b.full, past+b.past
	}
	if full < 300 || past < 500 {
		t.Error(full, past)
	}
}

// A client that is alone is answered as the model answers, one request behind the other: P21.2.
func TestAsTheServer(t *testing.T) {
	d := &draw{state: 214}
	told := 0
	for i := range 60 {
		p := api.Play{Config: api.Config{Versions: api.MaxVersions, Tracked: 4, Tries: 2, First: uint64(i % 5)}, Clients: [][]api.Request{nil}}
		for range api.MaxRequests {
			p.Clients[0] = append(p.Clients[0], d.request(t, 6))
		}
		for range 100 {
			p.Actions = append(p.Actions, api.Action{Kind: api.AcPick}, api.Action{Kind: api.AcTick, N: int64(d.below(3))})
		}
		events, e := server.Run(p)
		if e != api.OK {
			t.Fatal(e)
		}
		m := New()
		for _, v := range events {
			if v.Kind != api.EvAnswer {
				continue
			}
			want := v.Answer
			want.Snap, want.Tries = 0, 0
			if got, e := m.Do(p.Clients[0][v.Number], want.Stamp, want.Tick); e != api.OK || !sameAnswer(got, want) {
				t.Fatalf("%v, %.300v, not %.300v", e, got, want)
			}
			told++
		}
	}
	if told != 60*api.MaxRequests {
		t.Error(told)
	}
}

// A request of as many entries as may be, with the longest words, answers as in a store: P21.2.
func TestAsTheStoreAtLimits(t *testing.T) {
	long := strings.Repeat("Z", api.MaxName)
	text := strings.Repeat("x", api.MaxText)
	b := newBeside(t, api.Config{Versions: 99, Tracked: 2, Tries: 1})
	var lines []string
	for i := range api.MaxEntries {
		n := strconv.Itoa(i)
		lines = append(lines, "ensure @t"+n+" A/"+n+" n="+n+" r=*@t"+strconv.Itoa((i+1)%api.MaxEntries)+" ? n="+n)
	}
	value := strings.Repeat(" n="+text, api.MaxTexts)
	for _, line := range []string{
		strings.Join(lines, " ; "), strings.Join(lines, " ; "),
		"create @" + long + " " + long + "/" + long + " r=*@" + long,
		"create C/c" + value, "patch C/c n+=1", "patch C/c n-=" + text + " n+=1", "search C n^" + text, "search " + long,
		strings.Repeat("since A 0 ; ", api.MaxEntries-1) + "since C 0",
	} {
		b.do(parsed(t, line), 1)
	}
	if b.same(); b.model.Count() != b.store.Count() {
		t.Error(b.model.Count(), b.store.Count())
	}
}
