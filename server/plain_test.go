package server

import (
	"testing"

	"folio/api"
	"folio/session"
	"folio/store"
)

// plain is a server as the chapter spells it out, without goroutines.
type plain struct {
	store   *store.Store
	tries   int
	clients []*plainClient
	closed  bool
}

// plainClient is one whose requests ahead of next have ended; session is that of next, if it has begun.
type plainClient struct {
	requests []api.Request
	next     int
	session  *session.Session
}

func newPlain(t *testing.T, p api.Play) *plain {
	t.Helper()
	s, e := store.New(p.Config)
	if e != api.OK {
		t.Fatal(e)
	}
	l := &plain{store: s, tries: p.Config.Tries}
	for _, requests := range p.Clients {
		l.clients = append(l.clients, &plainClient{requests: requests})
	}
	return l
}

func (p *plain) isLive(n int64) bool {
	return !p.closed && n >= 0 && n < int64(len(p.clients)) && p.clients[n].next < len(p.clients[n].requests)
}

func (p *plain) live() int {
	count := 0
	for n := range p.clients {
		if p.isLive(int64(n)) {
			count++
		}
	}
	return count
}

func (p *plain) do(a api.Action) []api.Event {
	switch {
	case a.Kind == api.AcTick:
		return []api.Event{{Kind: api.EvTick, Tick: p.store.Tick(a.N)}}
	case a.Kind == api.AcVacuum:
		floor, removed := p.store.Vacuum()
		return []api.Event{{Kind: api.EvVacuum, Floor: floor, Removed: removed}}
	case a.Kind == api.AcPick && p.isLive(a.N):
		return p.step(int(a.N))
	}
	return nil
}

func (p *plain) step(n int) []api.Event {
	c := p.clients[n]
	var told []api.Event
	if c.session == nil {
		c.session = session.New(p.store, p.tries, c.requests[c.next])
		told = append(told, api.Event{Kind: api.EvAsk, Client: n, Number: c.next, Request: c.requests[c.next]})
	}
	if c.session.Step() {
		told = append(told, api.Event{Kind: api.EvAnswer, Client: n, Number: c.next, Answer: c.session.Answer(), Marks: c.session.Marks()})
		c.next++
		c.session = nil
	}
	return told
}

func (p *plain) rest() []api.Event {
	var told []api.Event
	for p.live() > 0 {
		for n := range p.clients {
			told = append(told, p.do(pick(int64(n)))...)
		}
	}
	return told
}

// pair are a server and one spelt out, with which the same is done.
type pair struct {
	t *testing.T
	s *Server
	p *plain
}

func newPair(t *testing.T, p api.Play) *pair {
	t.Helper()
	s, e := New(p.Config, p.Clients)
	if e != api.OK {
		t.Fatal(e)
	}
	return &pair{t, s, newPlain(t, p)}
}

// same fails unless both have told the same, and are the same behind it.
func (p *pair) same(what any, got, want []api.Event) []api.Event {
	p.t.Helper()
	if spelt(got) != spelt(want) {
		p.t.Fatalf("%v: %s, not\n%s", what, spelt(got), spelt(want))
	}
	if p.s.Live() != p.p.live() {
		p.t.Fatalf("%v: Live %d, not %d", what, p.s.Live(), p.p.live())
	}
	if x, y := stateOf(p.s.Store()), stateOf(p.p.store); x != y {
		p.t.Fatalf("%v: the store is %+v, not %+v", what, x, y)
	}
	return got
}

func (p *pair) do(a api.Action) []api.Event {
	p.t.Helper()
	return p.same(a, p.s.Do(a), p.p.do(a))
}

func (p *pair) rest() []api.Event {
	p.t.Helper()
	return p.same("Rest", p.s.Rest(), p.p.rest())
}

func (p *pair) close() {
	p.t.Helper()
	p.s.Close()
	p.p.closed = true
	p.same("Close", nil, nil)
}

// played does a whole play with both, and tells its events.
func played(t *testing.T, p api.Play) []api.Event {
	t.Helper()
	both := newPair(t, p)
	defer both.s.Close()
	var told []api.Event
	for _, a := range p.Actions {
		told = append(told, both.do(a)...)
	}
	return append(told, both.rest()...)
}

// ordered fails unless each request of a play has its EvAsk and, behind that, its EvAnswer, once each, a client's in the order of its requests, and none is asked ahead of the answer to the one ahead of it: P19.2.
func ordered(t *testing.T, p api.Play, l []api.Event) {
	t.Helper()
	next := make([]int, len(p.Clients)) // a request's two events count as two
	for i, e := range l {
		if e.Kind != api.EvAsk && e.Kind != api.EvAnswer {
			continue
		}
		place := 2*e.Number + e.Kind - api.EvAsk
		if e.Client < 0 || e.Client >= len(next) || place != next[e.Client] {
			t.Fatalf("event %d of\n%s", i, tell(l))
		}
		next[e.Client]++
	}
	for n, requests := range p.Clients {
		if next[n] != 2*len(requests) {
			t.Fatalf("client %d has %d events of %d requests", n, next[n], len(requests))
		}
	}
}
