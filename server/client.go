package server

import (
	"slices"

	"folio/api"
	"folio/session"
	"folio/turn"
)

// work is what a client's worker does: its requests, one after the other, with a wait behind each step but the very last, at which the client ends.
func (s *Server) work(client int, requests []api.Request) func(y *turn.Yield) {
	return func(y *turn.Yield) {
		for number, r := range requests {
			if number > 0 {
				y.Wait()
			}
			// The event that asks has it from now on.
			requests[number] = api.Request{}
			s.serve(y, client, number, r)
		}
	}
}

// serve does one request, and tells its beginning and its end. What is handed in is handed on in an event: the session has a copy of its own.
func (s *Server) serve(y *turn.Yield, client, number int, r api.Request) {
	c := session.New(s.store, s.tries, r)
	s.tell(api.Event{Kind: api.EvAsk, Client: client, Number: number, Request: r})
	for !c.Step() {
		y.Wait()
	}
	s.tell(api.Event{Kind: api.EvAnswer, Client: client, Number: number, Answer: c.Answer(), Marks: c.Marks()})
}

// own is a list in memory of its own, each of whose elements is made so by f.
func own[T any](l []T, f func(T) T) []T {
	l = slices.Clone(l)
	for i := range l {
		l[i] = f(l[i])
	}
	return l
}

// ownRequest is any request, fit or not, in memory of its own.
func ownRequest(r api.Request) api.Request {
	r.Entries = own(r.Entries, ownEntry)
	return r
}

// ownEntry is an entry in memory of its own.
func ownEntry(e api.Entry) api.Entry {
	e.Value, e.Edits, e.Pred = own(e.Value, ownField), slices.Clone(e.Edits), slices.Clone(e.Pred)
	return e
}

// ownField is a field in memory of its own.
func ownField(f api.Field) api.Field {
	f.Texts = slices.Clone(f.Texts)
	return f
}
