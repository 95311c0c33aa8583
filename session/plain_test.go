package session

import (
	"fmt"
	"iter"
	"testing"

	"folio/api"
	"folio/bundle"
	"folio/store"
)

// plain is a session as the chapter tells it, from top to bottom; it rests behind each step.
type plain struct {
	open   *store.Txn
	ended  bool
	answer api.Answer
	marks  api.Marks
	next   func() (int, bool)
	stop   func()
}

func newPlain(s *store.Store, tries int, r api.Request) *plain {
	p := &plain{}
	p.next, p.stop = iter.Pull(func(rest func(int) bool) { p.told(s, tries, r, func() bool { return rest(0) }) })
	return p
}

// told does the request; where rest is false, it is given up.
func (p *plain) told(s *store.Store, tries int, r api.Request, rest func() bool) {
	if bundle.Fit(r) != api.OK {
		p.answer = api.Answer{Status: api.Malformed}
		return
	}
	tries = min(tries, 8)
	for try := 1; ; try++ {
		x := s.Begin()
		p.open = x
		b, _ := bundle.New(r)
		if !rest() {
			return
		}
		for range bundle.Order(r) {
			if b.Step(x); !rest() {
				return
			}
			if b.Done() {
				break
			}
		}
		if p.over(s, tries, r, try, x, b) {
			return
		}
	}
}

// over ends a try, and says whether it was the last one.
func (p *plain) over(s *store.Store, tries int, r api.Request, try int, x *store.Txn, b *bundle.Run) bool {
	a := api.Answer{Snap: x.Snap(), Tries: try}
	if b.Status() == api.Past {
		x.Give()
		a.Status, a.At = api.Past, b.At()
		p.answer = a
		return true
	}
	m := x.Marks()
	wrote := len(x.Changes()) > 0
	now := s.Tick(0)
	stamp, e := x.Commit()
	if e == api.ErrClash {
		if r.Once {
			a.Status = api.Conflict
		} else if try >= tries {
			a.Status = api.Tired
		} else {
			return false
		}
		p.answer = a
		return true
	}
	if e == api.ErrFull || e == api.ErrSpent {
		a.Status = api.Full
		p.answer = a
		return true
	}
	a.Status = b.Status()
	if a.Status != api.Success {
		a.At = b.At()
	} else if a.Replies = b.Replies(); wrote {
		a.Stamp, a.Tick = stamp, now
		for _, l := range a.Replies {
			for i := range l.List {
				if v := &l.List[i].Version; v.Stamp == 0 {
					v.Stamp, v.Tick = stamp, now
				}
			}
		}
	}
	p.answer, p.marks = a, m
	return true
}

func (p *plain) step() bool {
	if !p.ended {
		_, rests := p.next()
		p.ended = !rests
	}
	return p.ended
}

func (p *plain) give() bool {
	if p.ended {
		return false
	}
	p.stop()
	if p.open != nil {
		p.open.Give()
	}
	p.ended = true
	return true
}

// slot is a session in one store, and one that is told from top to bottom in the other.
type slot struct {
	line  string
	c     *Session
	p     *plain
	steps int
	most  int // steps that it may take
}

// pair are two stores in which the same happens.
type pair struct {
	t     *testing.T
	first uint64 // their last stamp, when they are made
	a, b  *store.Store
	slots []*slot
}

func newPair(t *testing.T, c api.Config) *pair {
	t.Helper()
	return &pair{t: t, first: c.First, a: storeOf(t, c), b: storeOf(t, c)}
}

func (p *pair) begin(tries int, line string, r api.Request) *slot {
	s := &slot{
		line: line,
		c:    New(p.a, tries, r),
		p:    newPlain(p.b, tries, r),
		most: 1 + 8*(2*len(r.Entries)+1),
	}
	p.slots = append(p.slots, s)
	p.check("New", s)
	return s
}

// step does a step of both.
func (p *pair) step(s *slot) bool {
	p.t.Helper()
	was := p.trace()
	got, want := s.c.Step(), s.p.step()
	s.steps++
	if got != want {
		p.t.Fatalf("%s: Step %d is %v", s.line, s.steps, got)
	}
	p.check("Step", s)
	if a := s.c.Answer(); p.trace() != was && (a.Status != api.Success || a.Stamp != p.a.Last()) {
		p.t.Fatalf("%s: %s leaves a trace", s.line, show(a))
	}
	if s.steps == s.most && !got {
		p.t.Fatalf("%s: no end behind %d steps", s.line, s.steps)
	}
	return got
}

// give gives both up.
func (p *pair) give(s *slot) {
	p.t.Helper()
	was := p.trace()
	if got, want := s.c.Give(), s.p.give(); got != want {
		p.t.Fatalf("%s: Give is %v", s.line, got)
	}
	p.check("Give", s)
	if p.trace() != was {
		p.t.Fatalf("%s: Give leaves a trace", s.line)
	}
}

// trace is what a session leaves in the store.
func (p *pair) trace() string { return fmt.Sprint(p.a.Last(), p.a.Count()) }

// check holds all that a session tells, and what its store is, against what is told from top to bottom.
func (p *pair) check(what string, s *slot) {
	p.t.Helper()
	got := fmt.Sprint(s.c.Ended(), " ", show(s.c.Answer()), " marks ", showMarks(s.c.Marks()))
	want := fmt.Sprint(s.p.ended, " ", show(s.p.answer), " marks ", showMarks(s.p.marks))
	if got != want {
		p.t.Fatalf("%s: %s: %s, not %s", s.line, what, got, want)
	}
	if x, y := stateOf(p.a), stateOf(p.b); x != y {
		p.t.Fatalf("%s: %s: the store is %v, not %v", s.line, what, x, y)
	}
}

type state struct {
	last, floor          uint64
	count, open, tracked int
	tick                 int64
}

func stateOf(s *store.Store) state {
	return state{s.Last(), s.Floor(), s.Count(), s.Open(), s.Tracked(), s.Tick(0)}
}

// same fails unless both stores have the same versions of a few keys.
func (p *pair) same() {
	p.t.Helper()
	for _, typ := range []string{"A", "B"} {
		for _, id := range []string{"a", "b", "c", "d", "e"} {
			for stamp := p.first; ; stamp++ {
				k := api.Key{Type: typ, ID: id}
				v, is := p.a.Visible(k, stamp)
				w, was := p.b.Visible(k, stamp)
				got := showReply(api.Reply{List: []api.Found{{Key: k, Version: v}}})
				want := showReply(api.Reply{List: []api.Found{{Key: k, Version: w}}})
				if is != was || got != want {
					p.t.Fatalf("at %d: %s, not %s", stamp, got, want)
				}
				if stamp >= p.a.Last() {
					break
				}
			}
		}
	}
}

// close gives all up that has not ended, so that no goroutine is left.
func (p *pair) close() {
	p.t.Helper()
	for _, s := range p.slots {
		p.give(s)
	}
	if p.a.Open() != 0 {
		p.t.Fatal(p.a.Open(), "transactions are open behind the ends of all sessions")
	}
	p.same()
}
