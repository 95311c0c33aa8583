package model

import (
	"slices"
	"strings"
	"testing"

	"folio/api"
	"folio/op"
)

// pair is a model and one spelt out, of which the same is asked.
type pair struct {
	t     *testing.T
	model *Model
	plain *plain
}

func newPair(t *testing.T) *pair { return &pair{t, New(), &plain{}} }

// do asks the same of both.
func (p *pair) do(r api.Request, stamp uint64, tick int64) (api.Answer, api.Errno) {
	p.t.Helper()
	want, no := p.plain.do(r, stamp, tick)
	got, e := p.model.Do(r, stamp, tick)
	if e != no || !sameAnswer(got, want) {
		line, _ := op.Print(r)
		p.t.Fatalf("%s at %d, %d: %v, %+v, %q, not %v, %+v, %q", line, stamp, tick, e, got, allShown(got.Replies), no, want, allShown(want.Replies))
	}
	if p.model.Count() != len(p.plain.put) {
		p.t.Fatal(p.model.Count(), len(p.plain.put))
	}
	return got, e
}

// all holds what there is against what was spelt out.
func (p *pair) all() {
	p.t.Helper()
	for _, typ := range []string{"A", "B", "C", "", "a", "A/a", "Z*"} {
		if got, want := p.model.All(typ), p.plain.all(typ); !sameFounds(got, want) {
			p.t.Fatalf("All(%q): %.300v, not %.300v", typ, got, want)
		}
	}
}

// Drawn requests with drawn stamps and ticks answer as one spelt out does: P21.1.
func TestDrawn(t *testing.T) {
	d := &draw{state: 21}
	statuses, olds := map[int]int{}, 0
	for range 700 {
		p := newPair(t)
		for range 60 {
			stamp, tick := d.put()
			a, e := p.do(d.request(t, 5), stamp, tick)
			statuses[a.Status]++
			if e == api.ErrOld {
				olds++
			}
			p.all()
		}
	}
	for _, status := range []int{api.Success, api.Exists, api.Mismatch, api.Absent, api.Several, api.Unfit, api.Malformed} {
		if statuses[status] < 100 {
			t.Errorf("status %d was drawn %d times", status, statuses[status])
		}
	}
	if olds < 1000 || statuses[api.Past]+statuses[api.Full]+statuses[api.Conflict]+statuses[api.Tired] > 0 {
		t.Error(olds, statuses)
	}
}

// The stamps of a run that rise from request to request: nothing is old, and what is drawn grows: P21.1.
func TestDrawnRising(t *testing.T) {
	d := &draw{state: 22}
	for range 40 {
		p := newPair(t)
		stamp := uint64(d.below(3)) * (api.MaxStamp/2 - 1000)
		for i := range 200 {
			stamp += 1 + uint64(d.below(3))
			if _, e := p.do(d.request(t, 8), stamp, int64(i/3)); e != api.OK {
				t.Fatal(e)
			}
		}
		p.all()
	}
}

// pieces are entries that tell, of all kinds.
func pieces() []string {
	return []string{
		"create A/a n=1", "create @x A/c r=*@x", "create A/d r=*@x", "create @y B/b r=*@x r=*@y",
		"ensure A/a n=9 ? n=1", "ensure @x A/e n=1 ? n=1", "ensure @x A/c n=2 ? n=2", "ensure @y A/f n=1 r=*@x ? n=1", "ensure B/b ?", "ensure @x B/a n=1 ? r-",
		"update A/a n=2", "update A/a if 2 n=1", "update A/b r=*@x", "update A/b if 2", "update B/b if 1 n=3",
		"patch A/a n+=5", "patch A/a if 1 n==1", "patch A/c n:=*@x", "patch B/b r+=*@y n~",
		"delete A/a", "delete A/a if 2", "delete B/a", "delete A/b",
		"read A/a", "read A/b", "read A/e", "number A/a 1", "number A/a 2", "number A/b 2", "number A/c 0",
		"search A", "search A n=1", "search B r?", "history A/a 0", "history A/a 7", "history A/b 4",
		"since A 0", "since A 5", "since B 2", "at 5 A/a", "at 4 A/a", "at 7 A/b", "find 5 A", "find 9 A n=1", "find 3 B",
	}
}

// starts are what is put in ahead, each line with its stamp.
func starts() [][]string {
	return [][]string{
		{},
		{"create A/a n=1"},
		{"update A/a n=1 ; update A/b n=1", "delete A/b", "update A/a n=1 m=1", "create B/b n=3 r=*A/a"},
		{"create A/b", "delete A/b", "create A/a n=5 ; create B/a r=x", "delete A/a"},
		{"create A/c n=2 ; create A/a n=1", "create A/b n=1", "create B/a ; create B/b"},
	}
}

// started is a pair with a start, whose stamps fall from 5 on where they can.
func started(t *testing.T, lines []string) *pair {
	p := newPair(t)
	for _, line := range lines {
		for stamp := uint64(5); ; stamp = stamp%9 + 1 {
			if stamp == 4 {
				stamp = 7
			}
			a, e := p.do(parsed(t, line), stamp, int64(stamp))
			if e == api.OK && a.Status == api.Success {
				break
			}
			if e != api.ErrOld {
				t.Fatal(line, a, e)
			}
		}
	}
	return p
}

// All pairs of telling entries, in both orders, over all starts, with stamps that may be and others: P21.1.
func TestPairs(t *testing.T) {
	for _, lines := range starts() {
		for _, one := range pieces() {
			for _, two := range pieces() {
				r := parsed(t, one+" ; "+two)
				for _, stamp := range []uint64{0, 5, 6, 8, 99} {
					p := started(t, lines)
					p.do(r, stamp, 1)
					p.do(parsed(t, "since A 0 ; since B 0 ; search A ; search B"), 0, 0)
				}
			}
		}
	}
}

// The stamps that may be put in for a key, at their edges; what is refused is refused whole: P21.1 and P21.3.
func TestStamps(t *testing.T) {
	refused := func(m *Model, line string, stamp uint64) {
		t.Helper()
		was := dump(m)
		if a, e := m.Do(parsed(t, line), stamp, 9); e != api.ErrOld || !sameAnswer(a, api.Answer{}) || dump(m) != was {
			t.Errorf("%s at %d: %v, %v", line, stamp, a, e)
		}
	}
	m := New()
	refused(m, "create A/a", 0)
	succeeds(t, m, "create A/a", 1, -7, 1, "made A/a 1.1.-7 ()")
	refused(m, "delete A/a", 0)
	refused(m, "delete A/a", 1)
	succeeds(t, m, "delete A/a", 2, 1<<63-1, 2, "dropped A/a 2.2.9223372036854775807 (not live)")
	refused(m, "create A/a", 1)
	refused(m, "create A/a", 2)
	// The stamps of one key are nothing to another.
	succeeds(t, m, "create A/b", 1, 0, 1, "made A/b 1.1.0 ()")
	succeeds(t, m, "create A/a", api.MaxStamp, 0, api.MaxStamp, "made A/a 3.18446744073709551615.0 ()")
	refused(m, "update A/a", api.MaxStamp)
	refused(m, "update A/a n=1 ; create C/c ; delete A/b", api.MaxStamp)
	refused(m, "create C/c ; update A/b ; patch A/a n:=1", 900)
	succeeds(t, m, "create C/c ; update A/b", api.MaxStamp, -1, api.MaxStamp, "made C/c 1.18446744073709551615.-1 ()", "put A/b 2.18446744073709551615.-1 ()")
	succeeds(t, m, "at 18446744073709551614 A/a ; at 18446744073709551615 A/a ; since A 18446744073709551614 ; since A 18446744073709551615", 0, 0, 0,
		"deleted A/a 2.2.9223372036854775807 (not live)", "found A/a 3.18446744073709551615.0 ()",
		"list A/a 3.18446744073709551615.0 () A/b 2.18446744073709551615.-1 ()", "list")
	// What fails by itself does so ahead of its stamp, and what only reads has none.
	fails(t, m, "create A/a ; create D/d", api.Exists, 0)
	succeeds(t, m, "ensure @x C/z ? ; read A/q", 0, 5, 0, "found C/c 1.18446744073709551615.-1 ()", "missing")
}

// Below the stamp of a version that is there for one key, another key's version is seen by all reads of the past: P21.1.
func TestStampsBelow(t *testing.T) {
	m := New()
	succeeds(t, m, "create A/b n=1", 9, 1, 9, "made A/b 1.9.1 (n=1)")
	succeeds(t, m, "find 5 A ; since A 5", 0, 0, 0, "list", "list A/b 1.9.1 (n=1)")
	succeeds(t, m, "create A/c n=2 ; search A ; find 9 A", 4, 7, 4, "made A/c 1.4.7 (n=2)", "list A/b 1.9.1 (n=1) A/c 1.4.7 (n=2)", "list A/b 1.9.1 (n=1)")
	succeeds(t, m, "create A/a n=3", 9, 2, 9, "made A/a 1.9.2 (n=3)")
	succeeds(t, m, "find 5 A ; since A 3 ; since A 4 ; since A 9", 0, 0, 0,
		"list A/c 1.4.7 (n=2)", "list A/c 1.4.7 (n=2) A/a 1.9.2 (n=3) A/b 1.9.1 (n=1)", "list A/a 1.9.2 (n=3) A/b 1.9.1 (n=1)", "list")
	if l := m.All("A"); len(l) != 3 || l[0].Key.ID != "a" || l[1].Key.ID != "b" || l[2].Key.ID != "c" {
		t.Error(l)
	}
}

// There are no limits on how many versions and keys there are: P21.1.
func TestNoLimits(t *testing.T) {
	m := New()
	var lines []string
	for i := range api.MaxEntries {
		lines = append(lines, "update A/k"+strings.Repeat("i", i)+" n=1")
	}
	many := parsed(t, strings.Join(lines, " ; "))
	const times = 1000
	for i := range times {
		if a, e := m.Do(many, uint64(i+1), 0); e != api.OK || a.Status != api.Success {
			t.Fatal(i, a.Status, e)
		}
	}
	if m.Count() != times*api.MaxEntries || len(m.All("A")) != api.MaxEntries {
		t.Error(m.Count(), len(m.All("A")))
	}
	succeeds(t, m, "number A/k 999 ; number A/k 1001 ; at 500 A/kii ; history A/ki 998", 0, 0, 0,
		"found A/k 999.999.0 (n=1)", "missing", "found A/kii 500.500.0 (n=1)", "list A/ki 999.999.0 (n=1) A/ki 1000.1000.0 (n=1)")
	// Many keys, put in from the last to the first.
	const keys = 5000
	for i := range keys {
		r := parsed(t, "create B/x")
		r.Entries[0].Key.ID = string([]byte{byte('z' - i%26), byte('z' - i/26%26), byte('z' - i/676%26)})
		if a, e := m.Do(r, 1, 0); e != api.OK || a.Status != api.Success {
			t.Fatal(i, a, e)
		}
	}
	l := m.All("B")
	rising := slices.IsSortedFunc(l, func(a, b api.Found) int { return strings.Compare(a.Key.ID, b.Key.ID) })
	if len(l) != keys || !rising || len(m.All("A")) != api.MaxEntries || len(m.All("AB")) != 0 {
		t.Error(len(l), rising)
	}
}
