package server

import (
	"fmt"
	"math"
	"strconv"
	"testing"

	"folio/api"
	"folio/bundle"
	"folio/store"
)

// draw draws by a rule, so that every run of the tests is alike.
type draw struct{ state uint64 }

func (d *draw) below(n int) int {
	d.state = d.state*6364136223846793005 + 1442695040888963407
	return int((d.state >> 33) % uint64(n))
}

func (d *draw) of(l ...string) string { return l[d.below(len(l))] }

func (d *draw) key() string {
	return d.of("A", "A", "B") + "/" + d.of("a", "b", "c", "d", "e")
}

// fields are those of a value; each has a text that no other one has.
func (d *draw) fields(tag string) string {
	return d.of("", " n=1", " n=2", " n=3", " n=1 n=2", " r=*@x") + " w=" + tag
}

func (d *draw) terms() string { return d.of("", " n=1", " n=2", " n=3", " n=4", " n-", " r?") }

func (d *draw) when() string { return d.of("", "", "", " if 1", " if 2") }

func (d *draw) stamp() string { return d.of("0", "1", "3", "6", "9", "20", "18446744073709551615") }

// entry is the words of one; what it writes has the tag in it.
func (d *draw) entry(tag string) string {
	switch d.below(14) {
	case 0:
		return "create " + d.of("", "@x ") + d.key() + d.fields(tag)
	case 1:
		return "ensure " + d.of("", "@x ") + d.key() + d.fields(tag) + " ?" + d.terms()
	case 2, 3:
		return "update " + d.key() + d.when() + d.fields(tag)
	case 4:
		return "patch " + d.key() + d.when() + d.of(" n:=1", " n+=2", " n~", " n==1 n:=3") + " w:=" + tag
	case 5, 6:
		return "delete " + d.key() + d.when()
	case 7:
		return "search " + d.of("A", "B") + d.terms()
	case 8:
		return "number " + d.key() + " " + strconv.Itoa(d.below(5))
	case 9:
		return d.of("history "+d.key(), "since "+d.of("A", "B")) + " " + d.stamp()
	case 10:
		return d.of("at "+d.stamp()+" "+d.key(), "find "+d.stamp()+" A"+d.terms())
	}
	return "read " + d.key()
}

// request is one of up to so many entries; seldom it isn't fit.
func (d *draw) request(t *testing.T, client, number, most int) api.Request {
	t.Helper()
	if d.below(60) == 0 {
		l := unfit(t)
		return l[d.below(len(l))]
	}
	tag := func(i int) string { return fmt.Sprintf("%d.%d.%d", client, number, i) }
	line, place := d.entry(tag(0)), 1
	for range d.below(most) {
		more := line + " ; " + d.entry(tag(place))
		if bundle.Fit(parsed(t, more)) == api.OK || d.below(40) == 0 {
			line = more
			place++
		}
	}
	return parsed(t, d.of("", "", "", "", "once ")+line)
}

// action is any: mostly a pick of one of so many clients, now and then one that does nothing.
func (d *draw) action(clients int) api.Action {
	switch d.below(30) {
	case 0:
		return vacuum()
	case 1:
		return tick(int64(d.below(4)) - 1)
	case 2:
		odd := []int64{-1, 8, 9, 1 << 32, math.MaxInt64, math.MinInt64, 7, 6}
		return pick(odd[d.below(len(odd))])
	case 3:
		return api.Action{Kind: d.below(9) - 3, N: int64(d.below(9))}
	}
	return pick(int64(d.below(clients)))
}

// configs are stores with much room and little, up to the last stamps.
func configs() []api.Config {
	return []api.Config{
		{Versions: 4096, Tracked: 64, Tries: 8},
		{Versions: 60, Tracked: 2, Tries: 3, First: 3},
		{Versions: 6, Tracked: 8, Tries: 2},
		{Versions: 90, Tracked: 0, Tries: 8, First: 5},
		{Versions: 60, Tracked: 64, Tries: 1, First: api.MaxStamp - 5},
		{Versions: 200, Tracked: 5, Tries: 2},
	}
}

// play is one of up to so many clients, each with up to so many requests.
func (d *draw) play(t *testing.T, c api.Config, clients, requests, actions int) api.Play {
	t.Helper()
	p := api.Play{Config: c, Clients: make([][]api.Request, 1+d.below(clients))}
	for n := range p.Clients {
		for number := range d.below(requests + 1) {
			p.Clients[n] = append(p.Clients[n], d.request(t, n, number, 4))
		}
	}
	for range d.below(actions + 1) {
		p.Actions = append(p.Actions, d.action(len(p.Clients)))
	}
	return p
}

// Drawn plays tell what one spelt out without goroutines tells, action by action and as a whole, and end: P19.1 and P19.2.
func TestDrawnPlays(t *testing.T) {
	d := &draw{state: 191}
	drawn := map[string]int{}
	for i := range 1500 {
		p := d.play(t, configs()[i%len(configs())], 8, 8, 150)
		told := played(t, p)
		if got := ran(t, p); spelt(got) != spelt(told) {
			t.Fatalf("Run: %s, not\n%s", tell(got), tell(told))
		}
		ordered(t, p, told)
		for _, e := range told {
			if e.Kind == api.EvAnswer {
				drawn[statuses()[e.Answer.Status]]++
				drawn["tries "+strconv.Itoa(e.Answer.Tries)]++
			}
		}
	}
	for _, status := range statuses()[1:] {
		if drawn[status] < 100 {
			t.Errorf("%s was drawn %d times", status, drawn[status])
		}
	}
	for tries := range 5 {
		if n := drawn["tries "+strconv.Itoa(tries)]; n < 20 {
			t.Errorf("%d tries were drawn %d times", tries, n)
		}
	}
}

// guest does something in a store that no client does.
func guest(s *store.Store, what int, k api.Key) {
	switch what {
	case 0:
		s.Tick(2)
	case 1:
		s.Vacuum()
	default:
		x := s.Begin()
		if x.Put(k, nil); what == 2 {
			x.Delete(k)
		}
		x.Commit()
	}
}

// foreign does the same in the stores of both, beside the clients.
func (p *pair) foreign(d *draw) {
	what, k := d.below(5), api.Key{Type: "A", ID: d.of("a", "b", "c")}
	guest(p.s.Store(), what, k)
	guest(p.p.store, what, k)
}

// Drawn servers that are driven on behind Rest, closed at any time, driven on behind that, with guests in their stores: P19.1.
func TestDrawnDrives(t *testing.T) {
	d := &draw{state: 192}
	for i := range 1500 {
		p := newPair(t, d.play(t, configs()[i%len(configs())], 8, 6, 0))
		for range d.below(150) {
			switch d.below(60) {
			case 0:
				p.rest()
			case 1:
				if d.below(4) == 0 {
					p.close()
				}
			case 2, 3, 4:
				p.foreign(d)
			default:
				p.do(d.action(8))
			}
		}
		p.rest()
		p.close()
		p.rest()
	}
}

// few are lines of one or two entries that get into each other's way.
func few() []string {
	return []string{
		"create A/a n=1", "create A/b", "ensure A/b n=1 ? n=1", "ensure A/c n=2 ?", "update A/a n=2", "update A/a if 1",
		"patch A/a n:=3", "delete A/a", "read A/a", "search A n=1", "history A/a 0", "at 9 A/a", "number A/a 2",
		"read A/a ; create A/b", "read A/b ; update A/a n=1", "search A ; delete A/a", "at 0 A/a ; update A/b", "once read A/b ; create A/a",
	}
}

// In a play with one client no answer is Conflict or Tired: P19.4.
func TestAlone(t *testing.T) {
	d := &draw{state: 194}
	for i := range 800 {
		p := d.play(t, configs()[i%len(configs())], 1, 20, 200)
		// Others may be there, without requests.
		for range d.below(8) {
			p.Clients = append(p.Clients, nil)
		}
		for _, e := range played(t, p) {
			a := e.Answer
			if a.Status == api.Conflict || a.Status == api.Tired || a.Tries > 1 {
				t.Fatalf("%s", tell([]api.Event{e}))
			}
		}
	}
}
