package bundle

import (
	"slices"
	"strconv"
	"strings"
	"testing"

	"folio/api"
	"folio/op"
	"folio/refs"
	"folio/store"
)

// draw draws by a rule, so that every run of the tests is alike.
type draw struct{ state uint64 }

func (d *draw) below(n int) int {
	d.state = d.state*6364136223846793005 + 1442695040888963407
	return int((d.state >> 33) % uint64(n))
}

func (d *draw) of(l ...string) string { return l[d.below(len(l))] }

func (d *draw) key() string {
	return d.of("A", "A", "A", "B") + "/" + d.of("a", "b", "c", "d", "e")
}

func (d *draw) temp() string { return d.of("", "", "@x ", "@y ") }

func (d *draw) fields() string {
	return d.of("", " n=1", " n=2", " m=1 n=1", " n=1 n=2", " r=*@x", " n=2 r=*@y r=*@x", " n=1 r=*A/a", " n=3", " r=*@z")
}

func (d *draw) terms() string {
	return d.of("", " n=1", " n=2", " n=3", " n=4", " m?", " n-", " r?", " r=*@x", " m=1 n=1", " n!1", " r=*A/a")
}

func (d *draw) when() string { return d.of("", "", " if 1", " if 2", " if 3") }

func (d *draw) edits() string {
	return d.of(" n:=2", " n+=3", " n-=1", " n~", " n==1 n:=2", " r+=*@x", " r:=*@y m:=1", " r-=*@x", " r==*@x", " n:=*@z", " m~ n:=1 r~")
}

func (d *draw) stamp() string {
	return d.of("0", "1", "2", "3", "4", "5", "7", "9", "18446744073709551615")
}

// entry is the words of one, more often of one that writes.
func (d *draw) entry() string {
	switch d.below(16) {
	case 0, 1:
		return "create " + d.temp() + d.key() + d.fields()
	case 2, 3, 4:
		return "ensure " + d.temp() + d.key() + d.fields() + " ?" + d.terms()
	case 5, 6:
		return "update " + d.key() + d.when() + d.fields()
	case 7, 8:
		return "patch " + d.key() + d.when() + d.edits()
	case 9:
		return "delete " + d.key() + d.when()
	case 10:
		return "number " + d.key() + " " + strconv.Itoa(d.below(5))
	case 11:
		return "search " + d.of("A", "B", "C") + d.terms()
	case 12:
		return "history " + d.key() + " " + d.stamp()
	case 13:
		return "since " + d.of("A", "B", "C") + " " + d.stamp()
	case 14:
		return d.of("at "+d.stamp()+" "+d.key(), "find "+d.stamp()+" "+d.of("A", "B")+d.terms())
	}
	return "read " + d.key()
}

// request is one of up to most entries; seldom it isn't fit.
func (d *draw) request(t *testing.T, most int) api.Request {
	t.Helper()
	var r api.Request
	for range 1 + d.below(most) {
		more := r
		more.Entries = append(slices.Clone(r.Entries), parsed(t, d.entry()).Entries...)
		if plainFit(more) == api.OK || d.below(50) == 0 {
			r = more
		}
	}
	if len(r.Entries) == 0 {
		return parsed(t, d.entry())
	}
	return r
}

// slot is a run, and one spelt out, each in a transaction of its own store.
type slot struct {
	line string
	run  *Run
	told *plain
	x, y *store.Txn
}

// pair are two stores with the same slots. Of what happens in one the same happens in the other.
type pair struct {
	t     *testing.T
	a, b  *store.Store
	slots []*slot
}

func newPair(t *testing.T) *pair {
	a, _ := store.New(api.Config{Versions: 40, Tracked: 8, Tries: 1, First: 1})
	b, _ := store.New(api.Config{Versions: 40, Tracked: 8, Tries: 1, First: 1})
	return &pair{t: t, a: a, b: b}
}

// begin is a slot of a request; both must be as fit.
func (p *pair) begin(r api.Request) *slot {
	line, _ := op.Print(r)
	s := &slot{line: line, x: p.a.Begin(), y: p.b.Begin()}
	var got, want api.Errno
	s.run, got = New(r)
	s.told, want = newPlain(p.b, r)
	if got != want || Fit(r) != want {
		p.t.Fatalf("%s: New %v, Fit %v, not %v", line, got, Fit(r), want)
	}
	if want != api.OK {
		s.x.Give()
		s.y.Give()
		if len(Order(r)) != 0 {
			p.t.Fatal(line, Order(r))
		}
		return nil
	}
	p.order(r)
	return s
}

// order holds Order against the steps spelt out.
func (p *pair) order(r api.Request) {
	var want []int
	for _, s := range plainSteps(r) {
		want = append(want, s.at)
	}
	if got := Order(r); !slices.Equal(got, want) {
		p.t.Fatalf("%+v: %v, not %v", r, got, want)
	}
}

// put writes in both transactions of a slot, ahead of or beside its run.
func (s *slot) put(d *draw) {
	k := key(d.of("A", "B"), d.of("a", "b", "c"))
	if d.below(3) == 0 {
		s.x.Delete(k)
		s.y.Delete(k)
		return
	}
	v := fields(one("n", d.of("1", "2", "3")))
	s.x.Put(k, v)
	s.y.Put(k, v)
}

// step does a step of both, and holds them against each other.
func (p *pair) step(s *slot) {
	p.t.Helper()
	done := s.run.Step(s.x)
	s.told.step(s.y)
	what := unlike(s.run, s.told, s.x, s.y)
	if done != s.told.done() {
		what = "Step"
	}
	if what != "" {
		p.t.Fatalf("%s: %s: %v, %d at %d, %q, %+v, %+v; not %v, %d at %d, %q, %+v, %+v", s.line, what,
			done, s.run.Status(), s.run.At(), shown(s.run.Replies()), s.x.Marks(), s.x.Changes(),
			s.told.done(), s.told.status, s.told.at, shown(s.told.told()), s.y.Marks(), s.y.Changes())
	}
}

// commit commits both; what is told must be alike.
func (p *pair) commit(s *slot) {
	got, no := s.x.Commit()
	want, e := s.y.Commit()
	if got != want || no != e {
		p.t.Fatalf("%s: committed %d %v, not %d %v", s.line, got, no, want, e)
	}
}

// act does one thing that is drawn.
func (p *pair) act(d *draw) {
	n := d.below(20)
	if n == 0 {
		p.a.Vacuum()
		p.b.Vacuum()
		return
	}
	if n == 1 {
		p.a.Tick(1)
		p.b.Tick(1)
		return
	}
	if n < 4 || len(p.slots) == 0 {
		if s := p.begin(d.request(p.t, 5)); s != nil {
			if d.below(4) == 0 {
				s.put(d)
			}
			p.slots = append(p.slots, s)
		}
		return
	}
	i := d.below(len(p.slots))
	s := p.slots[i]
	if n == 4 && d.below(3) == 0 {
		s.put(d)
	}
	if n == 5 && d.below(5) == 0 {
		// Another one's transaction, that may have ended.
		other := p.slots[d.below(len(p.slots))]
		s.x, s.y, other.x, other.y = other.x, other.y, s.x, s.y
	}
	p.step(s)
	if s.run.Done() {
		p.commit(s)
		p.step(s)
		p.slots = slices.Delete(p.slots, i, i+1)
	}
}

// Drawn requests, side by side, step by step, answer as one spelt out does, and read and write the same: P17.1.
func TestDrawnScripts(t *testing.T) {
	d := &draw{state: 17}
	statuses := map[int]int{}
	for range 400 {
		p := newPair(t)
		for range 250 {
			if p.a.Count() > 30 {
				break
			}
			before := slices.Clone(p.slots)
			p.act(d)
			for _, s := range before {
				if s.run.Done() {
					statuses[s.run.Status()]++
				}
			}
		}
	}
	for _, status := range []int{api.Success, api.Exists, api.Mismatch, api.Absent, api.Several, api.Unfit, api.Past} {
		if statuses[status] < 100 {
			t.Errorf("status %d was drawn %d times", status, statuses[status])
		}
	}
}

// few are entries over a few keys, with all that temporary names, ensures and conditions can do to each other.
func few() []string {
	return []string{
		"create @x A/a n=1", "create A/d r=*@x", "create @y B/c r=*@y",
		"ensure @x A/d n=1 ? n=1", "ensure @y A/e n=1 ? n=1", "ensure A/e n=2 ? n?", "ensure @x B/d r=*@y ?", "ensure A/b n=2 ? n=2", "ensure A/c n=1 ? n=3",
		"update A/a n=2", "update A/c if 1 r=*@x", "update A/b if 1 n=1", "update B/a r=*@y",
		"patch A/a n+=1", "patch A/c r:=*@x", "patch B/a if 1 n==1 n~", "patch A/b n:=1",
		"delete A/a", "delete A/c if 1", "delete B/a if 2", "delete A/b",
		"read A/a", "read A/d", "search A n=1", "number A/a 1", "at 1 A/a", "find 9 A n=1", "since A 2", "history A/c 0",
	}
}

// states are lines that are committed ahead; vacuum is the word for one.
func states() [][]string {
	return [][]string{
		nil,
		{"create A/a n=1 ; create B/a n=1"},
		{"create A/a n=2 ; create A/b", "create A/c n=2", "delete A/b ; update A/a n=1", "vacuum", "create B/a"},
		{"create A/c n=1 ; create A/a n=1", "vacuum"},
	}
}

// ready is a pair of stores in which lines are committed.
func ready(t *testing.T, lines []string) *pair {
	t.Helper()
	p := newPair(t)
	for _, line := range lines {
		if line == "vacuum" {
			p.a.Vacuum()
			p.b.Vacuum()
			continue
		}
		s := p.begin(parsed(t, line))
		p.finish(s)
		p.commit(s)
	}
	return p
}

func (p *pair) finish(s *slot) {
	p.t.Helper()
	for !s.told.done() {
		p.step(s)
	}
}

// All requests of up to three of a few entries, in a few states of a store, answer as one spelt out does: P17.1 and P17.2.
func TestShortRequests(t *testing.T) {
	var entries []api.Entry
	for _, line := range few() {
		entries = append(entries, parsed(t, line).Entries...)
	}
	for i, lines := range states() {
		p := ready(t, lines)
		var try func(l []api.Entry)
		try = func(l []api.Entry) {
			if len(l) > 0 {
				if s := p.begin(api.Request{Entries: l}); s != nil {
					p.finish(s)
					allOrNothing(t, api.Request{Entries: l}, s.run, s.x)
					s.x.Give()
					s.y.Give()
				}
			}
			if len(l) == 3 || len(l) == 2 && i%2 == 0 {
				return
			}
			for _, e := range entries {
				try(append(slices.Clone(l), e))
			}
		}
		try(nil)
	}
}

// allOrNothing fails unless a transaction that did nothing but a run has just the changes that P17.2 says, without the temporary references that P17.4 rules out.
func allOrNothing(t *testing.T, r api.Request, b *Run, x *store.Txn) {
	t.Helper()
	var want []string
	if b.Status() == api.Success {
		for i, reply := range b.Replies() {
			if e := r.Entries[i]; op.Writes(e) && reply.Kind != api.RepFound {
				want = append(want, e.Key.Type+"/"+e.Key.ID)
			}
		}
	}
	slices.Sort(want)
	if got := written(x); got != strings.Join(want, " ") {
		line, _ := op.Print(r)
		t.Fatalf("%s: %s is written, not %s", line, got, want)
	}
	for _, e := range r.Entries {
		if e.Kind == api.EnPatch {
			continue
		}
		for _, c := range x.Changes() {
			if c.Key == e.Key && len(refs.Temps(c.Is)) > 0 {
				t.Fatalf("%+v: %+v", r, c)
			}
		}
	}
}
