package audit

import (
	"math"
	"slices"
	"testing"

	"folio/api"
)

// chapterRun is the first example of chapter 19.
const chapterRun = "config 9 4 2 0\n0 create A/a\n1 read A/a\npick 0 1 0 0 1\n"

// The chapter's examples: P22.1.
func TestExamples(t *testing.T) {
	l := played(t, chapterRun)
	n := nodesOf(t, l)
	if len(n) != 2 || n[0].Answer.Stamp != 1 || n[1].Answer.Snap != 0 || !slices.Equal(n[1].Marks.Keys, []api.Key{key("A", "a")}) {
		t.Fatalf("%.300v", n)
	}
	if !Ahead(n[1], n[0]) || Ahead(n[0], n[1]) {
		t.Error("Ahead")
	}
	orders(t, n, 1, 0)
	verifies(t, l)
	l[3].Answer.Replies[0] = reply(api.RepFound, l[2].Answer.Replies[0].List...)
	verifies(t, l, 1)
}

// orders fails unless nodes are put in this order.
func orders(t *testing.T, l []Node, want ...int) {
	t.Helper()
	if got, ok := Order(l); !ok || !slices.Equal(got, want) {
		t.Errorf("Order: %v %v, not %v", got, ok, want)
	}
}

// stuck fails unless there is no order.
func stuck(t *testing.T, l []Node) {
	t.Helper()
	if got, ok := Order(l); ok || len(got) > 0 {
		t.Errorf("Order: %v %v", got, ok)
	}
}

// verifies fails unless there is an order, and these are bad.
func verifies(t *testing.T, l []api.Event, want ...int) {
	t.Helper()
	if bad, ok, e := Verify(l); !ok || e != api.OK || !slices.Equal(bad, want) {
		t.Errorf("Verify: %v %v %v, not %v", bad, ok, e, want)
	}
}

// refused fails unless events are refused.
func refused(t *testing.T, what string, l []api.Event) {
	t.Helper()
	if n, e := Nodes(l); e != api.ErrArg || len(n) > 0 {
		t.Errorf("%s: Nodes %d %v", what, len(n), e)
	}
	if bad, ok, e := Verify(l); e != api.ErrArg || ok || len(bad) > 0 {
		t.Errorf("%s: Verify %v %v %v", what, bad, ok, e)
	}
}

// taken fails unless events are proper, with so many nodes.
func taken(t *testing.T, what string, l []api.Event, want int) {
	t.Helper()
	if n, e := Nodes(l); e != api.OK || len(n) != want {
		t.Errorf("%s: Nodes %d %v, not %d", what, len(n), e, want)
	}
	if _, _, e := Verify(l); e != api.OK {
		t.Errorf("%s: Verify %v", what, e)
	}
}

func ask(client, number int) api.Event {
	return api.Event{Kind: api.EvAsk, Client: client, Number: number}
}

func answer(client, number, status int) api.Event {
	return api.Event{Kind: api.EvAnswer, Client: client, Number: number, Answer: api.Answer{Status: status}}
}

// asks are the events of a client with so many requests.
func asks(client, count int) []api.Event {
	var l []api.Event
	for number := range count {
		l = append(l, ask(client, number), answer(client, number, api.Success))
	}
	return l
}

// Which events are proper: P22.1.
func TestProper(t *testing.T) {
	tick, vacuum := api.Event{Kind: api.EvTick}, api.Event{Kind: api.EvVacuum}
	taken(t, "none", nil, 0)
	taken(t, "none", []api.Event{}, 0)
	taken(t, "an ask", []api.Event{ask(0, 0)}, 0)
	taken(t, "an answer", asks(0, 1), 1)
	taken(t, "an ask last", append(asks(7, 3), ask(7, 3)), 3)
	taken(t, "as many as may be", asks(3, api.MaxRequests), api.MaxRequests)
	taken(t, "two by turns", []api.Event{ask(0, 0), tick, ask(7, 0), answer(7, 0, 1), vacuum, ask(7, 1), answer(0, 0, 1)}, 2)
	// Of what only ticks, or is a vacuum, nothing else is asked.
	for _, kind := range []int{api.EvTick, api.EvVacuum} {
		e := api.Event{Kind: kind, Client: -1, Number: -1, Answer: api.Answer{Status: 1}, Tick: -1, Removed: -1}
		taken(t, "a tick", []api.Event{e, e}, 0)
		e.Client, e.Number = api.MaxClients, api.MaxRequests
		taken(t, "a tick", append(asks(0, 1), e), 1)
	}

	for _, kind := range []int{0, -1, 5, 1 << 32, math.MaxInt, math.MinInt} {
		refused(t, "a kind", []api.Event{{Kind: kind}})
		refused(t, "a kind", append(asks(0, 1), api.Event{Kind: kind}))
	}
	for _, client := range []int{-1, api.MaxClients, 1 << 32, math.MaxInt, math.MinInt} {
		refused(t, "a client", asks(client, 1))
		refused(t, "a client", append(asks(0, 1), ask(client, 0)))
	}
	refused(t, "an answer ahead", []api.Event{answer(0, 0, 1)})
	refused(t, "an answer ahead", []api.Event{answer(0, 0, 1), ask(0, 0)})
	refused(t, "two asks", []api.Event{ask(0, 0), ask(0, 0)})
	refused(t, "two asks", []api.Event{ask(0, 0), ask(0, 1)})
	refused(t, "two answers", append(asks(0, 1), answer(0, 0, 1)))
	refused(t, "two answers", append(asks(0, 1), answer(0, 1, 1)))
	refused(t, "the first one has 1", []api.Event{ask(0, 1), answer(0, 1, 1)})
	refused(t, "a number twice", append(asks(0, 1), asks(0, 1)...))
	refused(t, "a number left out", append(asks(0, 1), ask(0, 2)))
	refused(t, "another's answer", []api.Event{ask(0, 0), answer(1, 0, 1)})
	refused(t, "an answer's number", []api.Event{ask(0, 0), answer(0, 1, 1)})
	refused(t, "below 0", []api.Event{ask(0, -1), answer(0, -1, 1)})
	refused(t, "one too many", append(asks(0, api.MaxRequests), ask(0, api.MaxRequests)))
	refused(t, "one too many", asks(0, api.MaxRequests+1))
	refused(t, "64 and all", asks(0, 3*api.MaxRequests))
}

// Which answers are nodes, and what stands in them: P22.1.
func TestNodes(t *testing.T) {
	for status := -1; status < 15; status++ {
		want := 0
		if status >= 1 && status <= 6 {
			want = 1
		}
		taken(t, "a status", []api.Event{ask(0, 0), answer(0, 0, status)}, want)
	}
	taken(t, "a status", []api.Event{ask(0, 0), answer(0, 0, math.MinInt)}, 0)
	taken(t, "a status", []api.Event{ask(0, 0), answer(0, 0, 1<<32+1)}, 0)

	l := []api.Event{
		{Kind: api.EvTick}, ask(5, 0), ask(2, 0), answer(2, 0, api.Full), ask(2, 1), {Kind: api.EvVacuum},
		answer(2, 1, api.Exists), answer(5, 0, api.Success), ask(0, 0),
	}
	l[1].Request = parsed(t, "once read A/a ; read A/b")
	l[4].Request = parsed(t, "create A/a n=1")
	l[6].Request = parsed(t, "delete A/a") // of the answer's event nothing is said
	l[6].Answer.At, l[6].Answer.Snap, l[6].Answer.Tries, l[6].Answer.Stamp, l[6].Answer.Tick = 3, 4, 5, 6, 7
	l[6].Marks = api.Marks{Keys: []api.Key{key("A", "a")}, Ranges: []api.Range{{Type: "A", Pred: []api.Term{{Field: "n", Op: 1, Text: "x"}}}}}
	l[4].Marks = api.Marks{Keys: []api.Key{key("A", "b")}}
	l[7].Answer.Replies = []api.Reply{reply(api.RepMissing), reply(api.RepFound, live(key("A", "b"), one("n", "1")))}
	want := []Node{
		{Client: 2, Number: 1, Asked: 4, Answered: 6, Request: l[4].Request, Answer: l[6].Answer, Marks: l[6].Marks},
		{Client: 5, Number: 0, Asked: 1, Answered: 7, Request: l[1].Request, Answer: l[7].Answer},
	}
	if n := nodesOf(t, l); spelt(n) != spelt(want) {
		t.Errorf("%.300s, not %.300s", spelt(n), spelt(want))
	}
}

// wrote are the events of requests each of which is answered with a stamp and replies.
func wrote(stamps []uint64, replies ...[]api.Reply) []api.Event {
	l := asks(0, len(stamps))
	for i, stamp := range stamps {
		l[2*i+1].Answer.Stamp, l[2*i+1].Answer.Replies = stamp, replies[i]
	}
	return l
}

// changed fails unless the node at a place has these changes.
func changed(t *testing.T, l []api.Event, at int, want ...api.Change) {
	t.Helper()
	if got := nodesOf(t, l)[at].Changes; spelt(got) != spelt(want) {
		t.Errorf("node %d: %.300s, not %.300s", at, spelt(got), spelt(want))
	}
}

// What a node writes: the first finds of replies of three kinds, one for each key: P22.1.
func TestChanges(t *testing.T) {
	a, b := key("A", "a"), key("A", "b")
	x := row(one("n", "x"))
	for kind := -1; kind < 10; kind++ {
		l := wrote([]uint64{1}, []api.Reply{reply(kind, live(a, x...), live(b))})
		if kind == api.RepMade || kind == api.RepPut || kind == api.RepDropped {
			changed(t, l, 0, api.Change{Key: a, IsLive: true, Is: x})
		} else {
			changed(t, l, 0)
		}
		changed(t, wrote([]uint64{1}, []api.Reply{reply(kind)}), 0)
	}
	// Live is what the version says, not the kind; what isn't live has no value.
	gone := api.Found{Key: a, Version: api.Version{Value: x}}
	changed(t, wrote([]uint64{1}, []api.Reply{reply(api.RepMade, gone)}), 0, api.Change{Key: a})
	changed(t, wrote([]uint64{1}, []api.Reply{reply(api.RepDropped, live(a, x...))}), 0, api.Change{Key: a, IsLive: true, Is: x})
	// The last of two counts; in order of keys; a value need not be normal, nor a key one that may be.
	odd := row(one("z"), one("", "2", "1"), one("z", "a"))
	changed(t, wrote([]uint64{1}, []api.Reply{
		reply(api.RepMade, live(key("B", "a"), odd...)), reply(api.RepPut, live(a, x...)), reply(api.RepMade, live(key("", "z"))),
		reply(api.RepPut, live(b)), reply(api.RepMissing, live(b, x...)), reply(api.RepPut, live(a)), reply(api.RepDropped, dead(b)),
	}), 0,
		api.Change{Key: key("", "z"), IsLive: true}, api.Change{Key: a, IsLive: true}, api.Change{Key: b}, api.Change{Key: key("B", "a"), IsLive: true, Is: odd})
	// Whatever the status, if it is a node's.
	l := wrote([]uint64{1}, []api.Reply{reply(api.RepMade, live(a, x...))})
	for status := api.Success; status <= api.Unfit; status++ {
		l[1].Answer.Status = status
		changed(t, l, 0, api.Change{Key: a, IsLive: true, Is: x})
	}
}

// What a key was ahead of a node: the write with the next lower stamp, whatever the order of the answers: P22.1.
func TestWas(t *testing.T) {
	a := key("A", "a")
	put := func(text string) []api.Reply { return []api.Reply{reply(api.RepPut, live(a, one("n", text)))} }
	was := func(from, to string) api.Change {
		return api.Change{Key: a, WasLive: from != "", Was: value(from), IsLive: to != "", Is: value(to)}
	}
	drop := []api.Reply{reply(api.RepDropped, dead(a))}
	l := wrote([]uint64{5, 9, 2, 7, 5, 9, 0}, put("e"), put("i"), put("b"), drop, put("f"), put("j"), put("o"))
	for at, want := range []api.Change{was("b", "e"), was("", "i"), was("o", "b"), was("e", ""), was("b", "f"), was("", "j"), was("", "o")} {
		changed(t, l, at, want)
	}
	// Of several of one stamp that of the node that stands first, also where it isn't live, and of its own two writes the last one.
	l = wrote([]uint64{3, 3, 4}, drop, put("y"), put("z"))
	changed(t, l, 2, was("", "z"))
	l = wrote([]uint64{4, 3, 3}, put("z"), slices.Concat(put("x"), put("v")), put("y"))
	changed(t, l, 0, was("v", "z"))
	// A node's own writes are none of those ahead of it, nor those of another key, nor what only reads.
	l = wrote([]uint64{3, 4}, []api.Reply{reply(api.RepMade, live(key("A", "b"), one("n", "x"))), reply(api.RepFound, live(a, one("n", "x")))}, slices.Concat(put("x"), put("y")))
	changed(t, l, 1, was("", "y"))
	// Up to the last stamp.
	l = wrote([]uint64{math.MaxUint64, math.MaxUint64 - 1, 1 << 63}, put("z"), put("y"), put("x"))
	changed(t, l, 0, was("y", "z"))
	changed(t, l, 1, was("x", "y"))
	changed(t, l, 2, was("", "x"))
	// One that wasn't answered, or with a status that no node has, has written nothing.
	l = wrote([]uint64{1, 2}, put("x"), put("y"))
	l[1].Answer.Status = api.Conflict
	changed(t, l, 0, was("", "y"))
}

func value(text string) []api.Field {
	if text == "" {
		return nil
	}
	return row(one("n", text))
}
