package server

import (
	"fmt"
	"math"
	"runtime"
	"strings"
	"testing"
	"time"

	"folio/api"
	"folio/marks"
	"folio/op"
)

// The chapter's examples, with all that stands in the events: P19.1.
func TestExamples(t *testing.T) {
	p := scripted(t, "config 9 4 2 0\n0 create A/a\n1 read A/a\npick 0 1 0 0 1\n")
	key := api.Key{Type: "A", ID: "a"}
	read := api.Marks{Keys: []api.Key{key}}
	version := api.Version{Number: 1, Stamp: 1, Live: true}
	wrote := api.Event{Kind: api.EvAnswer, Marks: read, Answer: api.Answer{Status: api.Success, Stamp: 1, Tries: 1,
		Replies: []api.Reply{{Kind: api.RepMade, List: []api.Found{{Key: key, Version: version}}}}}}
	missed := api.Event{Kind: api.EvAnswer, Client: 1, Marks: read, Answer: api.Answer{Status: api.Success, Tries: 1, Replies: []api.Reply{{Kind: api.RepMissing}}}}
	found := api.Event{Kind: api.EvAnswer, Client: 1, Marks: read, Answer: api.Answer{Status: api.Success, Snap: 1, Tries: 1,
		Replies: []api.Reply{{Kind: api.RepFound, List: []api.Found{{Key: key, Version: version}}}}}}
	asks := []api.Event{
		{Kind: api.EvAsk, Request: p.Clients[0][0]},
		{Kind: api.EvAsk, Client: 1, Request: p.Clients[1][0]},
	}
	want := []api.Event{asks[0], asks[1], wrote, missed}
	if got := ran(t, p); spelt(got) != spelt(want) {
		t.Errorf("%s, not\n%s", spelt(got), spelt(want))
	}
	s := made(t, p)
	if got := picks(s, 0, 1, 0, 0, 1); spelt(got) != spelt(want[:3]) || s.Live() != 1 {
		t.Error(spelt(got))
	}
	if got := s.Rest(); spelt(got) != spelt(want[3:]) || s.Live() != 0 {
		t.Error(spelt(got))
	}
	p.Actions = []api.Action{pick(0), pick(0), pick(0), pick(1), pick(1)}
	want = []api.Event{asks[0], wrote, asks[1], found}
	if got := ran(t, p); spelt(got) != spelt(want) {
		t.Errorf("%s, not\n%s", spelt(got), spelt(want))
	}
}

// refused fails unless New and Run answer an error, and nothing else.
func refused(t *testing.T, p api.Play, want api.Errno) {
	t.Helper()
	if s, e := New(p.Config, p.Clients); s != nil || e != want {
		t.Errorf("New: %v, %v, not %v", s, e, want)
	}
	if l, e := Run(p); len(l) != 0 || e != want {
		t.Errorf("Run: %v, %v, not %v", l, e, want)
	}
}

// New's errors, each at its bounds, and which one is told first: P19.1 and R6.
func TestRefusals(t *testing.T) {
	good := roomyConfig()
	many := make([][]api.Request, api.MaxClients+1)
	long := [][]api.Request{nil, make([]api.Request, api.MaxRequests+1)}
	for _, change := range []func(c *api.Config){
		func(c *api.Config) { *c = api.Config{} },
		func(c *api.Config) { c.Versions = 0 },
		func(c *api.Config) { c.Versions = api.MaxVersions + 1 },
		func(c *api.Config) { c.Versions = math.MinInt },
		func(c *api.Config) { c.Tracked = -1 },
		func(c *api.Config) { c.Tracked = api.MaxTracked + 1 },
		func(c *api.Config) { c.Tries = 0 },
		func(c *api.Config) { c.Tries = api.MaxTries + 1 },
		func(c *api.Config) { c.Tries = math.MaxInt },
	} {
		c := good
		change(&c)
		for _, clients := range [][][]api.Request{nil, make([][]api.Request, 3), many, long} {
			for _, actions := range [][]api.Action{nil, {tick(1)}, make([]api.Action, api.MaxActions+1)} {
				refused(t, api.Play{Config: c, Clients: clients, Actions: actions}, api.ErrArg)
			}
		}
	}
	for _, clients := range [][][]api.Request{many, make([][]api.Request, 1000), long, {long[1]}, append(many[:7:7], long[1]), append(many[:8:8], long[1])} {
		for _, actions := range [][]api.Action{nil, {pick(0)}, make([]api.Action, api.MaxActions+1)} {
			refused(t, api.Play{Config: good, Clients: clients, Actions: actions}, api.ErrLong)
		}
	}
}

// The least and the most that New and Run take: P19.1.
func TestBounds(t *testing.T) {
	for _, c := range []api.Config{
		{Versions: 1, Tracked: 0, Tries: 1},
		{Versions: api.MaxVersions, Tracked: api.MaxTracked, Tries: api.MaxTries, First: api.MaxStamp},
	} {
		for _, clients := range [][][]api.Request{nil, {}, {nil}, {{}, nil}, make([][]api.Request, api.MaxClients)} {
			p := api.Play{Config: c, Clients: clients}
			s := made(t, p)
			if l := s.Rest(); len(l) != 0 || s.Live() != 0 || s.Store().Last() != c.First {
				t.Error(c, len(clients), l, s.Live())
			}
			if l := ran(t, p); len(l) != 0 {
				t.Error(l)
			}
		}
	}
	p := scripted(t, "config 1 0 1 7\n")
	for n := range api.MaxClients {
		p.Clients = append(p.Clients, nil)
		for range api.MaxRequests {
			p.Clients[n] = append(p.Clients[n], parsed(t, "read A/a"))
		}
	}
	if l := ran(t, p); len(l) != 2*api.MaxClients*api.MaxRequests {
		t.Error(len(l))
	}
	for range api.MaxActions {
		p.Actions = append(p.Actions, tick(1))
	}
	if l := ran(t, p); len(l) != api.MaxActions+2*api.MaxClients*api.MaxRequests || l[api.MaxActions-1].Tick != api.MaxActions {
		t.Error(len(l))
	}
	p.Actions = append(p.Actions, tick(1))
	if l, e := Run(p); len(l) != 0 || e != api.ErrLong {
		t.Error(len(l), e)
	}
}

// Nothing is begun till the first pick, which tells what is asked, and begins: P19.1.
func TestSteps(t *testing.T) {
	s := made(t, scripted(t, "0 create A/a n=1 ; read A/a\n0 read A/a\n"))
	if stateOf(s.Store()) != (state{}) || s.Live() != 1 {
		t.Error(stateOf(s.Store()), s.Live())
	}
	for i, want := range []struct {
		told string
		open int
	}{
		{"ask 0 0 create A/a n=1 ; read A/a\n", 1},
		{"", 1},
		{"", 1},
		{"answer 0 0 success snap 0 tries 1 stamp 1 tick 0\n> made ; A/a 1 1 0 live n=1\n> found ; A/a 1 1 0 live n=1\n", 0},
		{"ask 0 1 read A/a\n", 1},
		{"", 1},
		{"answer 0 1 success snap 1 tries 1\n> found ; A/a 1 1 0 live n=1\n", 0},
		{"", 0},
	} {
		tells(t, s.Do(pick(0)), want.told)
		live := 1
		if i >= 6 {
			live = 0
		}
		if s.Live() != live || s.Store().Open() != want.open {
			t.Error(i, s.Live(), s.Store().Open())
		}
	}
}

// unfit are requests that may not be, or that share names or keys.
func unfit(t *testing.T) []api.Request {
	t.Helper()
	many := parsed(t, "once read A/a")
	for len(many.Entries) <= api.MaxEntries {
		many.Entries = append(many.Entries, many.Entries[0])
	}
	a := api.Key{Type: "A", ID: "a"}
	wild := []api.Field{{Name: "WILD", Texts: []string{"x", ""}}, {Name: "b"}, {Name: "a", Texts: []string{}}}
	return []api.Request{
		{}, {Once: true}, {Entries: []api.Entry{}}, many,
		{Entries: []api.Entry{{}, {}}},
		{Entries: []api.Entry{{Kind: 13, Key: a}}},
		{Once: true, Entries: []api.Entry{{Kind: -1, Key: a, Temp: "\x00", If: -3, Value: wild, Stamp: 9, Number: -9}}},
		{Entries: []api.Entry{{Kind: api.EnCreate, Key: a, Value: wild, Edits: []api.Edit{{Kind: 99, Field: "/", Text: "/"}}, Pred: []api.Term{{Op: -1}}}}},
		parsed(t, "create A/a ; delete A/a"),
		parsed(t, "once create @x A/a ; create @x A/b"),
	}
}

// What isn't fit is asked as it was handed in, and answered Malformed by the same pick: P19.1.
func TestMalformed(t *testing.T) {
	p := api.Play{Config: roomyConfig(), Clients: [][]api.Request{unfit(t)}}
	s := made(t, p)
	for i, r := range unfit(t) {
		want := []api.Event{
			{Kind: api.EvAsk, Number: i, Request: r},
			{Kind: api.EvAnswer, Number: i, Answer: api.Answer{Status: api.Malformed}},
		}
		got := s.Do(pick(0))
		if spelt(got) != spelt(want) || !op.Equal(got[0].Request, r) {
			t.Errorf("%s, not\n%s", spelt(got), spelt(want))
		}
	}
	if s.Live() != 0 || stateOf(s.Store()) != (state{}) {
		t.Error(s.Live(), stateOf(s.Store()))
	}
}

// A pick of no live client, and an action of no kind, do nothing: P19.1.
func TestIdleActions(t *testing.T) {
	p := scripted(t, "0 read A/a\n2 create A/a\n3 read A/a\n")
	s := made(t, p)
	for range 3 {
		s.Do(pick(2))
		s.Do(pick(3))
	}
	s.Do(pick(0))
	was := stateOf(s.Store())
	idle := []api.Action{{}, {N: 1}, {Kind: 4}, {Kind: -1}, {Kind: math.MinInt}, {Kind: math.MaxInt}, {Kind: 0, N: 5}, {Kind: 5, N: 0}}
	for _, n := range []int64{1, 2, 3, 4, 5, 7, 8, 15, 16, -1, -8, 1 << 31, 1 << 32, 1<<32 + 1, -1 << 32, math.MaxInt64, math.MinInt64} {
		idle = append(idle, pick(n))
	}
	for _, a := range idle {
		if l := s.Do(a); len(l) != 0 || stateOf(s.Store()) != was || s.Live() != 1 {
			t.Error(a, l, stateOf(s.Store()), s.Live())
		}
	}
	tells(t, s.Rest(), "answer 0 0 success snap 1 tries 1\n> found ; A/a 1 1 0 live\n")
}

// Ticks and vacuums tell one event each, whoever is live: P19.1.
func TestTicksAndVacuums(t *testing.T) {
	s := made(t, scripted(t, "0 create A/a\n0 update A/a n=1\n0 update A/a n=2\n1 read A/a\n"))
	for _, c := range []struct{ n, want int64 }{
		{3, 3}, {0, 3}, {-5, 3}, {math.MinInt64, 3}, {4, 7}, {1, 8}, {api.MaxTick - 9, api.MaxTick - 1}, {math.MaxInt64, api.MaxTick}, {api.MaxTick, api.MaxTick}, {1, api.MaxTick},
	} {
		want := []api.Event{{Kind: api.EvTick, Tick: c.want}}
		if got := s.Do(tick(c.n)); spelt(got) != spelt(want) {
			t.Errorf("tick %d: %s", c.n, spelt(got))
		}
	}
	for _, c := range []struct {
		picks   []int64
		floor   uint64
		removed int
	}{
		{nil, 0, 0},
		{[]int64{0, 0, 0}, 1, 0},
		{[]int64{1, 0, 0, 0}, 1, 0},
		{[]int64{0, 0, 0}, 1, 0},
		{[]int64{1, 1}, 3, 2},
		{nil, 3, 0},
	} {
		picks(s, c.picks...)
		want := []api.Event{{Kind: api.EvVacuum, Floor: c.floor, Removed: c.removed}}
		if got := s.Do(api.Action{Kind: api.AcVacuum, N: 77}); spelt(got) != spelt(want) {
			t.Errorf("%s, not %s", spelt(got), spelt(want))
		}
	}
	if s.Live() != 0 {
		t.Error(s.Live())
	}
}

// Who has requests that have not ended is live, and none else: P19.1.
func TestLive(t *testing.T) {
	s := made(t, scripted(t, "1 read A/a\n1 read A/b\n3 read A/a\n6 read A/c\n"))
	live := 3
	for _, c := range []struct {
		client int64
		ends   bool
	}{
		{0, false}, {3, false}, {2, false}, {3, false}, {3, true}, {3, false}, {1, false}, {1, false}, {1, false}, {5, false},
		{1, false}, {1, false}, {6, false}, {1, true}, {6, false}, {4, false}, {6, true}, {6, false}, {1, false},
	} {
		if s.Live() != live {
			t.Fatal(s.Live(), live)
		}
		if s.Do(pick(c.client)); c.ends {
			live--
		}
	}
	if s.Live() != 0 || len(s.Rest()) != 0 {
		t.Error(s.Live())
	}
}

// Rest picks from client 0 on, round and round, whoever was picked last; those that have ended, or have no request, are passed by: P19.1.
func TestRest(t *testing.T) {
	s := made(t, scripted(t, "0 read A/a\n1 read A/a ; read A/b\n1 read A/c\n3 read A/a\n5 create A/a ; create A/a\n5 create A/z\n"))
	tells(t, picks(s, 1, 3, 1, 3), "ask 1 0 read A/a ; read A/b\nask 3 0 read A/a\n")
	missing := " success snap 0 tries 1\n> missing\n"
	tells(t, s.Rest(), "ask 0 0 read A/a\n"+ // the first round
		"answer 3 0"+missing+
		"ask 5 0 create A/a ; create A/a\nanswer 5 0 malformed\n"+
		"answer 1 0 success snap 0 tries 1\n> missing\n> missing\n"+ // the second
		"ask 5 1 create A/z\n"+
		"answer 0 0"+missing+ // the third
		"ask 1 1 read A/c\n"+
		"answer 5 1 success snap 0 tries 1 stamp 1 tick 0\n> made ; A/z 1 1 0 live\n"+ // the fourth
		"answer 1 1"+missing)
	if s.Live() != 0 || len(s.Rest()) != 0 || s.Store().Open() != 0 {
		t.Error(s.Live(), s.Store().Open())
	}
}

// Sessions have the configuration's tries: P19.1.
func TestTries(t *testing.T) {
	for tries := 1; tries <= api.MaxTries; tries++ {
		p := scripted(t, "0 update A/a n=0\n1 once update A/a n=1\n")
		p.Config.Tries = tries
		s := made(t, p)
		var told []api.Event
		rivals := 0
		picks(s, 0, 0, 1, 1)
		for len(told) == 0 && rivals < 20 {
			x := s.Store().Begin()
			x.Put(api.Key{Type: "A", ID: "a"}, nil)
			if _, e := x.Commit(); e != api.OK {
				t.Fatal(e)
			}
			rivals++
			told = picks(s, 0, 0)
		}
		tells(t, told, fmt.Sprintf("answer 0 0 tired snap %d tries %d\n", tries-1, tries))
		tells(t, s.Do(pick(1)), "answer 1 0 conflict snap 0 tries 1\n")
		if rivals != tries || s.Live() != 0 {
			t.Error(tries, rivals, s.Live())
		}
	}
}

// The store is the clients' own: what others do in it they see, and the other way round: P19.1.
func TestStore(t *testing.T) {
	s := made(t, scripted(t, "0 read A/a\n0 create B/b n=2\n"))
	if s.Store() == nil || s.Store() != s.Store() {
		t.Fatal(s.Store())
	}
	x := s.Store().Begin()
	x.Put(api.Key{Type: "A", ID: "a"}, []api.Field{{Name: "n", Texts: []string{"1"}}})
	if _, e := x.Commit(); e != api.OK {
		t.Fatal(e)
	}
	s.Store().Tick(4)
	tells(t, s.Rest(), "ask 0 0 read A/a\nanswer 0 0 success snap 1 tries 1\n> found ; A/a 1 1 0 live n=1\n"+
		"ask 0 1 create B/b n=2\nanswer 0 1 success snap 1 tries 1 stamp 2 tick 4\n> made ; B/b 1 2 4 live n=2\n")
	if v, there := s.Store().Visible(api.Key{Type: "B", ID: "b"}, 2); !there || v.Number != 1 || v.Stamp != 2 {
		t.Error(v, there)
	}
}

// The marks of an answer are those of the session's last try: P19.1.
func TestMarks(t *testing.T) {
	s := made(t, scripted(t, "0 search A n=1 ; read B/b\n0 once read A/a ; update C/c\n0 at 0 A/a\n1 update C/c\n"))
	var told []api.Event
	told = append(told, picks(s, 0, 0, 0, 0)...)
	told = append(told, picks(s, 0, 0, 0, 1, 1, 1, 0)...)
	s.Do(vacuum())
	told = append(told, s.Rest()...)
	var answers []api.Event
	for _, e := range told {
		if e.Kind == api.EvAnswer {
			answers = append(answers, e)
		}
	}
	n := []api.Term{{Field: "n", Op: api.OpIs, Text: "1"}}
	want := []api.Marks{
		{Keys: []api.Key{{Type: "B", ID: "b"}}, Ranges: []api.Range{{Type: "A", Pred: n}}},
		{Keys: []api.Key{{Type: "C", ID: "c"}}},
		{}, {},
	}
	for i, m := range want {
		if !marks.Equal(answers[i].Marks, m) {
			t.Errorf("%d: %+v, not %+v", i, answers[i].Marks, m)
		}
	}
	if answers[2].Answer.Status != api.Conflict || answers[3].Answer.Status != api.Past {
		t.Error(tell(told))
	}
}

// Behind Close no client goes on, and what was open stays open; the clock, the vacuum and the store go on: P19.1.
func TestClose(t *testing.T) {
	for steps := range 8 {
		s := made(t, scripted(t, "0 create A/a\n0 create A/b\n1 read A/a ; read A/b\n2 read A/c\n"))
		for range steps {
			picks(s, 0, 1)
		}
		was := stateOf(s.Store())
		for range 3 {
			if s.Close(); s.Live() != 0 || stateOf(s.Store()) != was {
				t.Fatal(steps, s.Live(), stateOf(s.Store()), was)
			}
			for n := range int64(9) {
				if l := s.Do(pick(n)); len(l) != 0 {
					t.Error(steps, n, l)
				}
			}
			if l := s.Rest(); len(l) != 0 || stateOf(s.Store()) != was {
				t.Error(steps, l)
			}
		}
		tells(t, s.Do(tick(2)), "tick 2\n")
		least := was.last
		if was.open > 0 {
			// That of client 1, which was begun first, or, from its end on, that of client 0.
			least = min(least, uint64(steps/4))
		}
		tells(t, s.Do(vacuum()), fmt.Sprintf("vacuum %d 0\n", least))
		x := s.Store().Begin()
		x.Put(api.Key{Type: "Z", ID: "z"}, nil)
		if _, e := x.Commit(); e != api.OK || s.Store().Open() != was.open {
			t.Error(e, s.Store().Open())
		}
	}
}

// settles fails unless there come to be just so many goroutines.
func settles(t *testing.T, want int) {
	t.Helper()
	// One that has said its end may still be on its way out.
	for range 400 {
		if runtime.NumGoroutine() == want {
			return
		}
		time.Sleep(5 * time.Millisecond)
	}
	t.Error("goroutines:", runtime.NumGoroutine(), "and not", want)
}

// settled is how many goroutines there are, when those of the tests ahead are gone.
func settled() int {
	least := runtime.NumGoroutine()
	for range 20 {
		time.Sleep(time.Millisecond)
		least = min(least, runtime.NumGoroutine())
	}
	return least
}

// Each client that has begun and not ended is a goroutine; behind Close, and behind Run, none is left: P19.1.
func TestGoroutines(t *testing.T) {
	before := settled()
	p := scripted(t, "0 create A/a\n1 read A/a\n1 read A/a\n2 read A/b\n4 read A/c\npick 1 0 4 1 1 1\nvacuum\n")
	s := made(t, p)
	settles(t, before)
	picks(s, 0, 1, 1, 4)
	settles(t, before+3)
	picks(s, 0, 0, 1, 2)
	settles(t, before+3)
	s.Do(pick(1))
	settles(t, before+3)
	s.Close()
	settles(t, before)

	s = made(t, p)
	s.Rest()
	settles(t, before)
	ran(t, p)
	settles(t, before)
	p.Actions = make([]api.Action, api.MaxActions+1)
	if _, e := Run(p); e != api.ErrLong {
		t.Error(e)
	}
	settles(t, before)
}

// Of nil: P19.5 and R1.
func TestNil(t *testing.T) {
	var s *Server
	for range 2 {
		for _, a := range []api.Action{{}, pick(0), pick(-1), tick(3), vacuum(), {Kind: 9}} {
			if l := s.Do(a); len(l) != 0 {
				t.Error(a, l)
			}
		}
		if l := s.Rest(); len(l) != 0 || s.Live() != 0 || s.Store() != nil {
			t.Error(l, s.Live(), s.Store())
		}
		s.Close()
	}
}

// A run ends with whatever is left of each client, in rounds, however few are picked: P19.2.
func TestManyClients(t *testing.T) {
	script := ""
	for n := range api.MaxClients {
		script += fmt.Sprintf("%d create A/a n=%d\n%d read A/a\n", n, n, n)
	}
	p := scripted(t, script)
	l := ran(t, p)
	told := tell(l)
	if len(l) != 4*api.MaxClients || strings.Count(told, " exists ") != api.MaxClients-1 || !strings.HasPrefix(told, "ask 0 0 create A/a n=0\nask 1 0 ") {
		t.Error(told)
	}
	ordered(t, p, l)
}
