package audit

import (
	"math"
	"slices"
	"strconv"
	"testing"

	"folio/api"
)

// draw draws by a rule, so that every run of the tests is alike.
type draw struct {
	state uint64
	tag   int // how many values were drawn
}

func (d *draw) below(n int) int {
	d.state = d.state*6364136223846793005 + 1442695040888963407
	return int((d.state >> 33) % uint64(n))
}

func (d *draw) of(l ...string) string { return l[d.below(len(l))] }

func (d *draw) key() string { return d.of("A", "A", "B") + "/" + d.of("a", "b", "c", "d") }

// fields are those of a value, most often with a text that no other one has.
func (d *draw) fields() string {
	d.tag++
	return d.of("", " n=1", " n=2", " n=1 n=2", " r=*@x", " n=3") + d.of("", " w="+strconv.Itoa(d.tag), " w="+strconv.Itoa(d.tag))
}

func (d *draw) terms() string {
	return d.of("", "", " n=1", " n=2", " n=4", " n-", " r?", " n=1 n!2", " w^1")
}

func (d *draw) when() string { return d.of("", "", "", " if 1", " if 2") }

func (d *draw) stamp() string { return d.of("0", "1", "3", "6", "9", "20", "18446744073709551615") }

// entry is the words of one.
func (d *draw) entry() string {
	switch d.below(15) {
	case 0, 1:
		return "create " + d.of("", "@x ") + d.key() + d.fields()
	case 2:
		return "ensure " + d.of("", "@x ") + d.key() + d.fields() + " ?" + d.terms()
	case 3, 4, 5:
		return "update " + d.key() + d.when() + d.fields()
	case 6:
		return "patch " + d.key() + d.when() + d.of(" n:=1", " n+=2", " n~", " n==1 n:=3", " r+=*@x")
	case 7:
		return "delete " + d.key() + d.when()
	case 8, 9:
		return "search " + d.of("A", "B") + d.terms()
	case 10:
		return "number " + d.key() + " " + strconv.Itoa(d.below(5))
	case 11:
		return d.of("history "+d.key(), "since "+d.of("A", "B")) + " " + d.stamp()
	case 12:
		return d.of("at "+d.stamp()+" "+d.key(), "find "+d.stamp()+" A"+d.terms())
	}
	return "read " + d.key()
}

// request is one of up to so many entries; now and then it isn't fit.
func (d *draw) request(t *testing.T, most int) api.Request {
	t.Helper()
	r := parsed(t, d.of("", "", "", "", "once ")+d.entry())
	for range d.below(most) {
		r.Entries = append(r.Entries, parsed(t, d.entry()).Entries...)
	}
	return r
}

// configs are stores with much room and little, up to the last stamps.
func configs() []api.Config {
	return []api.Config{
		{Versions: 4096, Tracked: 64, Tries: 8},
		{Versions: 200, Tracked: 2, Tries: 3, First: 3},
		{Versions: 6, Tracked: 8, Tries: 2},
		{Versions: 90, Tracked: 0, Tries: 8, First: 5},
		{Versions: 60, Tracked: 64, Tries: 1, First: api.MaxStamp - 5},
		{Versions: 100, Tracked: 5, Tries: 2},
	}
}

// play is one of up to so many clients, each with up to so many requests, and up to so many actions.
func (d *draw) play(t *testing.T, c api.Config, clients, requests, actions int) api.Play {
	t.Helper()
	p := api.Play{Config: c, Clients: make([][]api.Request, 1+d.below(clients))}
	for n := range p.Clients {
		for range d.below(requests + 1) {
			p.Clients[n] = append(p.Clients[n], d.request(t, 4))
		}
	}
	for range d.below(actions + 1) {
		a := api.Action{Kind: api.AcPick, N: int64(d.below(len(p.Clients)))}
		switch d.below(30) {
		case 0:
			a = api.Action{Kind: api.AcVacuum}
		case 1:
			a = api.Action{Kind: api.AcTick, N: int64(d.below(4))}
		}
		p.Actions = append(p.Actions, a)
	}
	return p
}

// near is a small number, now and then one at an edge.
func (d *draw) near() uint64 {
	if d.below(12) == 0 {
		return []uint64{math.MaxUint64, math.MaxUint64 - 1, 1 << 63, 1<<63 - 1}[d.below(4)]
	}
	return uint64(d.below(7))
}

func (d *draw) place() int {
	if d.below(30) == 0 {
		return []int{math.MinInt, -1, math.MaxInt, 1 << 32}[d.below(4)]
	}
	return d.below(9)
}

func (d *draw) anyKey() api.Key {
	return key(d.of("A", "A", "B", ""), d.of("a", "b", "c", "d", "e", "!"))
}

func (d *draw) anyValue() []api.Field {
	return [][]api.Field{nil, row(one("n", "1")), row(one("n", "2")), row(one("n", "1", "2")), row(one("n")), row(one("z", "1"), one("n", "1"))}[d.below(6)]
}

func (d *draw) anyTerms() []api.Term {
	var l []api.Term
	for range []int{0, 1, 1, 2}[d.below(4)] {
		l = append(l, api.Term{Field: "n", Op: 1 + d.below(8), Text: d.of("1", "2", "3")})
	}
	return l
}

func (d *draw) anyMarks() api.Marks {
	var m api.Marks
	for range d.below(3) {
		m.Keys = append(m.Keys, d.anyKey())
	}
	for range []int{0, 0, 1, 2}[d.below(4)] {
		m.Ranges = append(m.Ranges, api.Range{Type: d.of("A", "B", "", "C"), Pred: d.anyTerms()})
	}
	return m
}

func (d *draw) anyFound() api.Found {
	return api.Found{Key: d.anyKey(), Version: api.Version{Number: d.below(4), Stamp: d.near(), Tick: int64(d.below(3)), Live: d.below(3) > 0, Value: d.anyValue()}}
}

func (d *draw) anyReply() api.Reply {
	r := api.Reply{Kind: d.below(8)}
	for range []int{0, 1, 1, 1, 2}[d.below(5)] {
		r.List = append(r.List, d.anyFound())
	}
	return r
}

// node is any, with changes in any order, a key twice among them.
func (d *draw) node() Node {
	n := spot(d.place(), d.place(), d.near(), d.near())
	n.Marks = d.anyMarks()
	for range []int{0, 0, 1, 1, 2, 3}[d.below(6)] {
		n.Changes = append(n.Changes, api.Change{Key: d.anyKey(), WasLive: d.below(2) == 0, Was: d.anyValue(), IsLive: d.below(2) == 0, Is: d.anyValue()})
	}
	return n
}

// turn makes something in events other than it was.
func (d *draw) turn(l []api.Event) []api.Event {
	if len(l) == 0 {
		return l
	}
	at := d.below(len(l))
	e := &l[at]
	switch d.below(40) {
	case 0:
		e.Kind = d.below(7) - 1
	case 1:
		e.Client = d.below(10) - 1
	case 2:
		e.Number += d.below(3) - 1
	case 3:
		return slices.Delete(l, at, at+1)
	case 4:
		return slices.Insert(l, at, l[d.below(len(l))])
	case 5:
		return l[:at]
	case 6, 7, 8:
		// Whom the two are of, and so whether all is proper, hangs on what they are.
		if at > 0 {
			l[at-1], l[at] = l[at], l[at-1]
		}
	case 9:
		e.Request = l[d.below(len(l))].Request
	default:
		d.turnAnswer(e)
	}
	return l
}

func (d *draw) turnAnswer(e *api.Event) {
	a := &e.Answer
	if e.Marks = d.oddMarks(e.Marks); len(a.Replies) == 0 || d.below(3) == 0 {
		switch d.below(12) {
		case 0:
			a.Status = d.below(13) - 1
		case 1, 2, 3, 4:
			a.Snap = d.near()
		case 5, 6, 7, 8:
			a.Stamp = d.near()
		case 9:
			a.Tick++
		case 10:
			a.At++
		case 11:
			a.Replies = append(slices.Clone(a.Replies), d.anyReply())
		}
		return
	}
	a.Replies = slices.Clone(a.Replies)
	r := &a.Replies[d.below(len(a.Replies))]
	if r.List = slices.Clone(r.List); len(r.List) == 0 || d.below(5) == 0 {
		*r = d.anyReply()
		return
	}
	v := &r.List[0].Version
	switch d.below(6) {
	case 0:
		r.Kind = d.below(9)
	case 1:
		r.List[0].Key = d.anyKey()
	case 2:
		v.Live = !v.Live
	case 3:
		v.Value = d.anyValue()
	case 4:
		v.Number++
	case 5:
		v.Stamp++
	}
}

func (d *draw) oddMarks(m api.Marks) api.Marks {
	if d.below(6) > 0 {
		return m
	}
	return d.anyMarks()
}
