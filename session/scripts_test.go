package session

import (
	"slices"
	"strconv"
	"strings"
	"testing"

	"folio/api"
	"folio/bundle"
	"folio/store"
)

// draw draws by a rule, so that every run of the tests is alike.
type draw struct{ state uint64 }

func (d *draw) below(n int) int {
	d.state = d.state*6364136223846793005 + 1442695040888963407
	return int((d.state >> 33) % uint64(n))
}

func (d *draw) of(l ...string) string { return l[d.below(len(l))] }

func (d *draw) key() string {
	return d.of("A", "A", "B") + "/" + d.of("a", "b", "c", "d", "e")
}

func (d *draw) fields() string { return d.of("", " n=1", " n=2", " n=3", " n=1 n=2", " r=*@x") }

func (d *draw) terms() string { return d.of("", " n=1", " n=2", " n=3", " n=4", " n-", " r?") }

func (d *draw) when() string { return d.of("", "", "", " if 1", " if 2") }

func (d *draw) stamp() string { return d.of("0", "1", "3", "6", "9", "20", "18446744073709551615") }

// entry is the words of one.
func (d *draw) entry() string {
	switch d.below(14) {
	case 0:
		return "create " + d.of("", "@x ") + d.key() + d.fields()
	case 1:
		return "ensure " + d.of("", "@x ") + d.key() + d.fields() + " ?" + d.terms()
	case 2, 3:
		return "update " + d.key() + d.when() + d.fields()
	case 4:
		return "patch " + d.key() + d.when() + d.of(" n:=1", " n+=2", " n~", " n==1 n:=3")
	case 5, 6:
		return "delete " + d.key() + d.when()
	case 7:
		return "search " + d.of("A", "B") + d.terms()
	case 8:
		return "number " + d.key() + " " + strconv.Itoa(d.below(5))
	case 9:
		return d.of("history "+d.key(), "since "+d.of("A", "B")) + " " + d.stamp()
	case 10:
		return d.of("at "+d.stamp()+" "+d.key(), "find "+d.stamp()+" A"+d.terms())
	}
	return "read " + d.key()
}

// line is that of a request of up to so many entries; seldom it isn't fit.
func (d *draw) line(t *testing.T, most int) string {
	t.Helper()
	line := d.entry()
	for range d.below(most) {
		more := line + " ; " + d.entry()
		if bundle.Fit(parsed(t, more)) == api.OK || d.below(30) == 0 {
			line = more
		}
	}
	return d.of("", "", "", "", "once ") + line
}

// others are transactions, no sessions', that are open in both stores.
type others [][2]*store.Txn

// act does one thing beside the sessions in both stores.
func (o *others) act(d *draw, p *pair) {
	if len(*o) == 0 || d.below(6) == 0 {
		*o = append(*o, [2]*store.Txn{p.a.Begin(), p.b.Begin()})
		return
	}
	i, what := d.below(len(*o)), d.below(6)
	k, v := api.Key{Type: "A", ID: d.of("a", "b")}, []api.Field{{Name: "n", Texts: []string{d.of("1", "2")}}}
	for _, x := range (*o)[i] {
		switch what {
		case 0, 1:
			x.Put(k, v)
		case 2:
			x.Read(k)
		case 3:
			x.Delete(k)
		case 4:
			x.Give()
		case 5:
			x.Commit()
		}
	}
	if what > 3 {
		*o = slices.Delete(*o, i, i+1)
	}
}

func (o *others) close() {
	for _, both := range *o {
		both[0].Give()
		both[1].Give()
	}
}

// busy writes a key in both stores, most times that a session is about to be committed.
func (p *pair) busy(d *draw, s *slot) {
	if s.c.Ended() || !s.c.run.Done() || d.below(8) == 0 {
		return
	}
	k, live := api.Key{Type: "A", ID: d.of("a", "b", "c")}, d.below(2) == 0
	for _, x := range []*store.Txn{p.a.Begin(), p.b.Begin()} {
		if live {
			x.Put(k, []api.Field{{Name: "n", Texts: []string{"1"}}})
		} else {
			x.Delete(k)
		}
		x.Commit()
	}
}

// act does one thing that is drawn.
func (p *pair) act(d *draw, o *others) {
	p.t.Helper()
	n := d.below(40)
	live := slices.DeleteFunc(slices.Clone(p.slots), func(s *slot) bool { return s.c.Ended() })
	switch {
	case n == 0:
		p.a.Vacuum()
		p.b.Vacuum()
	case n == 1:
		p.a.Tick(3)
		p.b.Tick(3)
	case n < 5:
		o.act(d, p)
	case n < 8 && len(live) < 6 || len(live) == 0:
		line := d.line(p.t, 4)
		p.begin(d.below(11)-1, line, parsed(p.t, line))
	case n == 8 && d.below(4) == 0:
		p.give(live[d.below(len(live))])
	case n == 9:
		// One that has ended stays as it is.
		s := p.slots[d.below(len(p.slots))]
		if s.c.Ended() {
			p.step(s)
			p.give(s)
		}
	default:
		s := live[d.below(len(live))]
		if p.first%2 == 1 {
			p.busy(d, s)
		}
		p.step(s)
	}
}

// configs are stores with much room and little, up to the last stamps; those with an odd first stamp are busy ones.
func configs() []api.Config {
	return []api.Config{
		{Versions: 60, Tracked: 8, Tries: 1},
		{Versions: 90, Tracked: 2, Tries: 1, First: 3},
		{Versions: 5, Tracked: 8, Tries: 1},
		{Versions: 90, Tracked: 0, Tries: 1, First: 5},
		{Versions: 60, Tracked: 64, Tries: 8, First: api.MaxStamp - 5},
	}
}

// Drawn sessions side by side, with transactions, vacuums and ticks between their steps, answer as told from top to bottom: P18.1 to P18.3.
func TestDrawnScripts(t *testing.T) {
	d := &draw{state: 18}
	drawn := map[string]int{}
	for i := range 1500 {
		p := newPair(t, configs()[i%len(configs())])
		var o others
		for range 150 {
			p.act(d, &o)
		}
		o.close()
		for _, s := range p.slots {
			if s.c.Ended() {
				a := s.c.Answer()
				drawn[statuses()[a.Status]]++
				drawn["tries "+strconv.Itoa(a.Tries)]++
			}
		}
		p.close()
	}
	for _, status := range statuses() {
		if drawn[status] < 100 {
			t.Errorf("%s was drawn %d times", status, drawn[status])
		}
	}
	for tries := range 9 {
		if n := drawn["tries "+strconv.Itoa(tries)]; n < 20 {
			t.Errorf("%d tries were drawn %d times", tries, n)
		}
	}
}

// few are lines of one or two entries that get into each other's way.
func few() []string {
	return []string{
		"create A/a n=1", "create A/b", "ensure A/b n=1 ? n=1", "ensure A/c n=2 ?", "update A/a n=2", "update A/a if 1",
		"patch A/a n:=3", "delete A/a", "read A/a", "search A n=1", "history A/a 0", "at 9 A/a", "number A/a 2",
		"read A/a ; create A/b", "read A/b ; update A/a n=1", "search A ; delete A/a", "at 0 A/a ; update A/b", "create @x A/b ; create A/c r=*@y",
	}
}

// begins are the lines that are laid ahead.
func begins() [][]string {
	return [][]string{nil, {"create A/a n=1"}, {"create A/a n=2 ; create A/b n=1", "delete A/b"}}
}

// Two sessions of a few lines, woven in all ways, answer as told from top to bottom: P18.1 to P18.3.
func TestWoven(t *testing.T) {
	for i, ahead := range begins() {
		for j, one := range few() {
			for k, two := range few() {
				if (j+k)%3 == i {
					weave(t, ahead, one, two)
				}
			}
		}
	}
}

// weave does two sessions in each order of their first steps, then the rest of both.
func weave(t *testing.T, ahead []string, one, two string) {
	t.Helper()
	for order := range 1 << 6 {
		p := newPair(t, api.Config{Versions: 6, Tracked: 2 * (order % 2), Tries: 1})
		lay(t, p.a, ahead...)
		lay(t, p.b, ahead...)
		slots := []*slot{p.begin(2, one, parsed(t, one)), p.begin(3, two, parsed(t, two))}
		for i := range 6 {
			p.step(slots[order>>i&1])
			if i == 3 && order%4 == 3 {
				p.a.Vacuum()
				p.b.Vacuum()
			}
		}
		for _, s := range slots {
			for !p.step(s) {
			}
		}
		p.close()
	}
}

// all is a line of so many entries, the first one of A/a.
func all(entries int, word, pred string) string {
	var words []string
	for i := range entries {
		words = append(words, word+" A/"+string(rune('a'+i))+" n="+strconv.Itoa(i)+pred)
	}
	return strings.Join(words, " ; ")
}

// The most steps that there can be, and not one more, at each number of entries: P18.2.
func TestMostSteps(t *testing.T) {
	for entries := 1; entries <= api.MaxEntries; entries++ {
		for _, tries := range []int{1, 3, 8, 99} {
			s := small(t)
			c := begun(t, s, tries, all(entries, "ensure", " ? q?"), 1)
			steps := 1
			for !c.Ended() && steps < 1000 {
				if c.run.Done() {
					hit(t, s)
				}
				c.Step()
				steps++
			}
			most := min(tries, 8)
			if a := c.Answer(); a.Status != api.Tired || a.Tries != most || steps != 1+most*(2*entries+1) || s.Open() != 0 {
				t.Fatalf("%d entries, %d tries: %s behind %d steps", entries, tries, show(a), steps)
			}
			c = begun(t, s, tries, all(entries, "create", ""), 0)
			if n := ended(t, c); n != entries+2 || c.Answer().Status != api.Success {
				t.Fatalf("%d entries: %s behind %d steps", entries, show(c.Answer()), n)
			}
		}
	}
}

// A session between whose steps no other is committed needs one try, and never is Conflict nor Tired: P18.4.
func TestAlone(t *testing.T) {
	d := &draw{state: 184}
	successes := 0
	for i := range 1500 {
		p := newPair(t, configs()[i%len(configs())])
		var o others
		for range d.below(120) {
			p.act(d, &o)
		}
		line := d.line(t, 5)
		s := p.begin(1+d.below(8), line, parsed(t, line))
		for !p.step(s) {
			// Others begin, read, write, are given up; the clock ticks, there are vacuums.
			for range d.below(3) {
				p.beside(d, &o)
			}
		}
		a := s.c.Answer()
		if a.Status == api.Conflict || a.Status == api.Tired || a.Status != api.Malformed && a.Tries != 1 {
			t.Fatalf("%s: %s", s.line, show(a))
		}
		if a.Status == api.Success {
			successes++
		}
		o.close()
		p.close()
	}
	if successes < 500 {
		t.Error(successes)
	}
}

// beside does something that is drawn, but no commit.
func (p *pair) beside(d *draw, o *others) {
	k := api.Key{Type: "A", ID: d.of("a", "b", "c")}
	switch d.below(5) {
	case 0:
		p.a.Vacuum()
		p.b.Vacuum()
	case 1:
		p.a.Tick(1)
		p.b.Tick(1)
	case 2:
		*o = append(*o, [2]*store.Txn{p.a.Begin(), p.b.Begin()})
	default:
		for _, both := range *o {
			for _, x := range both {
				x.Read(k)
				x.Put(k, nil)
			}
		}
	}
}
