package session

import (
	"fmt"
	"slices"
	"strings"
	"testing"

	"folio/api"
	"folio/op"
	"folio/pred"
	"folio/store"
	"folio/value"
)

// parsed is the request of a line.
func parsed(t *testing.T, line string) api.Request {
	t.Helper()
	r, e := op.Parse(line)
	if e != api.OK {
		t.Fatalf("%q: %v", line, e)
	}
	return r
}

// small is a store with room for 99 versions and 4 done transactions.
func small(t *testing.T) *store.Store {
	t.Helper()
	return storeOf(t, api.Config{Versions: 99, Tracked: 4, Tries: 1})
}

func storeOf(t *testing.T, c api.Config) *store.Store {
	t.Helper()
	s, e := store.New(c)
	if e != api.OK {
		t.Fatal(c, e)
	}
	return s
}

// begun is a session of a line, of which so many steps are done.
func begun(t *testing.T, s *store.Store, tries int, line string, steps int) *Session {
	t.Helper()
	c := New(s, tries, parsed(t, line))
	for i := range steps {
		if c.Step() || c.Ended() {
			t.Fatalf("%s: ended at step %d", line, i+1)
		}
	}
	return c
}

// ended does all steps of a session, and tells how many there were.
func ended(t *testing.T, c *Session) int {
	t.Helper()
	for n := 1; n <= 1000; n++ {
		if c.Step() {
			return n
		}
	}
	t.Fatal("no end")
	return 0
}

// done is the answer of a line that is done alone.
func done(t *testing.T, s *store.Store, line string) string {
	t.Helper()
	c := begun(t, s, 1, line, 0)
	ended(t, c)
	return show(c.Answer())
}

// lay commits lines one after the other.
func lay(t *testing.T, s *store.Store, lines ...string) {
	t.Helper()
	for _, line := range lines {
		if got := done(t, s, line); !strings.HasPrefix(got, "Success ") {
			t.Fatalf("%s: %s", line, got)
		}
	}
}

func statuses() []string {
	return strings.Fields("Zero Success Exists Mismatch Absent Several Unfit Conflict Tired Full Past Malformed")
}

// show is an answer in words, each part of it.
func show(a api.Answer) string {
	words := fmt.Sprintf("%s at %d snap %d stamp %d tick %d tries %d", statuses()[a.Status], a.At, a.Snap, a.Stamp, a.Tick, a.Tries)
	for _, r := range a.Replies {
		words += " | " + showReply(r)
	}
	return words
}

// showReply is a reply in words: its kind, and each key with its version's number, stamp, tick and value.
func showReply(r api.Reply) string {
	words := []string{strings.Fields("nothing found made put dropped missing deleted list")[r.Kind]}
	for _, f := range r.List {
		v := f.Version
		line, e := value.Print(v.Value)
		if !v.Live {
			line += "not live"
		}
		if e != api.OK {
			line = fmt.Sprint(e, v.Value)
		}
		words = append(words, fmt.Sprintf("%s/%s %d.%d.%d (%s)", f.Key.Type, f.Key.ID, v.Number, v.Stamp, v.Tick, line))
	}
	return strings.Join(words, " ")
}

// showMarks are marks in words: each key, and each range.
func showMarks(m api.Marks) string {
	var words []string
	for _, k := range m.Keys {
		words = append(words, k.Type+"/"+k.ID)
	}
	for _, r := range m.Ranges {
		line, e := pred.Print(r.Pred)
		if e != api.OK {
			line = fmt.Sprint(e, r.Pred)
		}
		words = append(words, r.Type+"("+line+")")
	}
	return strings.Join(words, " ")
}

// tells fails unless a session has ended with this answer and these marks, and stays so.
func tells(t *testing.T, c *Session, answer, marks string) {
	t.Helper()
	for range 2 {
		if !c.Ended() || show(c.Answer()) != answer || showMarks(c.Marks()) != marks {
			t.Errorf("%v, %q, %q, not %q, %q", c.Ended(), show(c.Answer()), showMarks(c.Marks()), answer, marks)
		}
		if !c.Step() || c.Give() {
			t.Error("it goes on behind its end")
		}
	}
}

const zero = "Zero at 0 snap 0 stamp 0 tick 0 tries 0"

// silent fails unless a session hasn't ended, and tells nothing.
func silent(t *testing.T, c *Session) {
	t.Helper()
	if c.Ended() || show(c.Answer()) != zero || showMarks(c.Marks()) != "" {
		t.Errorf("%v, %q, %q", c.Ended(), show(c.Answer()), showMarks(c.Marks()))
	}
}

// The chapter's examples: P18.1.
func TestExamples(t *testing.T) {
	s := small(t)
	a := begun(t, s, 2, "create A/a n=1", 2)
	silent(t, a)
	if !a.Step() {
		t.Error("three steps are enough")
	}
	tells(t, a, "Success at 0 snap 0 stamp 1 tick 0 tries 1 | made A/a 1.1.0 (n=1)", "A/a")

	s = small(t)
	b, c := begun(t, s, 2, "create A/a n=2", 2), begun(t, s, 2, "once create A/a n=3", 2)
	lay(t, s, "create A/a n=1")
	for range 2 {
		if b.Step() {
			t.Fatal(show(b.Answer()))
		}
		silent(t, b)
	}
	if !b.Step() || !c.Step() {
		t.Error("too many steps")
	}
	tells(t, b, "Exists at 0 snap 1 stamp 0 tick 0 tries 2", "A/a")
	tells(t, c, "Conflict at 0 snap 0 stamp 0 tick 0 tries 1", "")
	if s.Open() != 0 || s.Count() != 1 || s.Last() != 1 {
		t.Error(s.Open(), s.Count(), s.Last())
	}
}

// Nothing is begun ahead of the first step, which takes the snapshot: P18.1.
func TestNothingIsBegun(t *testing.T) {
	s := small(t)
	c := New(s, 3, parsed(t, "read A/a"))
	silent(t, c)
	if s.Open() != 0 {
		t.Error(s.Open())
	}
	lay(t, s, "create A/a n=1", "update A/a n=2")
	if c.Step() || s.Open() != 1 {
		t.Error(s.Open())
	}
	lay(t, s, "update A/a n=3")
	if n := ended(t, c); n != 2 || s.Open() != 0 {
		t.Error(n, s.Open())
	}
	tells(t, c, "Success at 0 snap 2 stamp 0 tick 0 tries 1 | found A/a 2.2.0 (n=2)", "A/a")
}

// All replies that own writes tell have the stamp and the tick of the commit, others their own: P18.1.
func TestReplies(t *testing.T) {
	s := storeOf(t, api.Config{Versions: 99, Tracked: 4, Tries: 1, First: 40})
	s.Tick(3)
	lay(t, s, "create A/a n=1 ; create A/b n=2 ; create A/c")
	s.Tick(4)
	c := begun(t, s, 1, "create @x B/a r=*@x ; delete A/c ; read A/c ; read A/a ; patch A/b n+=3 ; search A ; ensure B/b ? r? ; number A/a 1 ; history A/b 0 ; read A/q", 5)
	s.Tick(2)
	if n := ended(t, c); n != 8 {
		t.Error(n)
	}
	s.Tick(5)
	tells(t, c, "Success at 0 snap 41 stamp 42 tick 9 tries 1"+
		" | made B/a 1.42.9 (r=*B/a) | dropped A/c 2.42.9 (not live) | deleted A/c 2.42.9 (not live) | found A/a 1.41.3 (n=1)"+
		" | put A/b 2.42.9 (n=2 n=3) | list A/a 1.41.3 (n=1) A/b 2.42.9 (n=2 n=3) | made B/b 1.42.9 () | found A/a 1.41.3 (n=1)"+
		" | list A/b 1.41.3 (n=2) | missing",
		"A/a A/b A/c A/q B/a B/b B(r?) A()")
	// Where nothing is written there is neither a stamp nor a tick.
	if got := done(t, s, "read A/a ; ensure A/z n=1 ? n=1"); got != "Success at 0 snap 42 stamp 0 tick 0 tries 1 | found A/a 1.41.3 (n=1) | found A/a 1.41.3 (n=1)" {
		t.Error(got)
	}
	if got := done(t, s, "update A/q"); got != "Success at 0 snap 42 stamp 43 tick 14 tries 1 | made A/q 1.43.14 ()" {
		t.Error(got)
	}
}

// By what runs fail, at which entry, and what they had read: P18.1.
func TestFailures(t *testing.T) {
	s := small(t)
	lay(t, s, "create A/a n=1 ; create A/b n=1")
	for line, want := range map[string][2]string{
		"read B/b ; create A/a":           {"Exists at 1", "A/a"},
		"read A/a ; update A/a if 2":      {"Mismatch at 1", "A/a"},
		"read A/a ; delete A/c":           {"Absent at 1", "A/c"},
		"create A/c ; ensure A/d ? n=1":   {"Several at 1", "A(n=1)"},
		"read A/b ; patch A/a n==2":       {"Unfit at 1", "A/a"},
		"create C/c ; update A/a r=*@q":   {"Unfit at 1", "A/a C/c"},
		"create C/c ; ensure A/a ? n=2":   {"Exists at 1", "A/a C/c A(n=2)"},
		"delete A/a ; create C/c r=*@q":   {"Unfit at 1", "A/a C/c"},
		"once read A/a ; create A/b r=*@": {"Exists at 1", "A/b"},
	} {
		for steps := range 3 {
			c := begun(t, s, 1, line, min(steps, 2))
			ended(t, c)
			tells(t, c, want[0]+" snap 1 stamp 0 tick 0 tries 1", want[1])
		}
	}
	if s.Last() != 1 || s.Count() != 2 || s.Open() != 0 {
		t.Error(s.Last(), s.Count(), s.Open())
	}
}

// What is below the floor is Past, with the entry, and without marks; it isn't tried again: P18.1.
func TestPast(t *testing.T) {
	for _, entry := range []string{"number A/a 1", "at 1 A/a", "find 1 A", "since A 1", "history A/a 1"} {
		for _, once := range []string{"", "once "} {
			s := small(t)
			lay(t, s, "create A/a", "update A/a n=1")
			s.Vacuum()
			c := begun(t, s, 8, once+"read A/a ; create B/b ; "+entry, 4)
			lay(t, s, "update A/a n=2 ; create B/b")
			if !c.Step() {
				t.Error("one more step")
			}
			tells(t, c, "Past at 2 snap 2 stamp 0 tick 0 tries 1", "")
			if s.Open() != 0 || s.Last() != 3 || s.Count() != 3 || s.Tracked() != 1 {
				t.Error(s.Open(), s.Last(), s.Count(), s.Tracked())
			}
		}
	}
	// A vacuum between the steps: the floor counts that there is at the step.
	s := small(t)
	lay(t, s, "create A/a", "update A/a n=1")
	c := begun(t, s, 8, "at 1 A/a ; at 1 A/a", 2)
	s.Vacuum()
	if n := ended(t, c); n != 2 {
		t.Error(n)
	}
	tells(t, c, "Past at 1 snap 2 stamp 0 tick 0 tries 1", "")
}

// A store without room is Full, be it of versions or of stamps; there is one try, and no trace: P18.1 and P18.3.
func TestFull(t *testing.T) {
	for _, config := range []api.Config{
		{Versions: 2, Tracked: 4, Tries: 1, First: api.MaxStamp - 9},
		{Versions: 9, Tracked: 4, Tries: 1, First: api.MaxStamp - 1},
	} {
		s := storeOf(t, config)
		s.Tick(7)
		lay(t, s, "create A/a ; create A/b")
		last := s.Last()
		for _, line := range []string{"create A/c", "once create A/c", "read A/a ; update A/a n=1 ; search A", "create A/c ; create A/d", "delete A/a"} {
			c := begun(t, s, 8, line, 0)
			ended(t, c)
			tells(t, c, fmt.Sprintf("Full at 0 snap %d stamp 0 tick 0 tries 1", last), "")
		}
		if s.Last() != last || s.Count() != 2 || s.Open() != 0 {
			t.Error(s.Last(), s.Count(), s.Open())
		}
		// What writes nothing is not Full.
		if got := done(t, s, "read A/a"); got != fmt.Sprintf("Success at 0 snap %d stamp 0 tick 0 tries 1 | found A/a 1.%d.7 ()", last, last) {
			t.Error(got)
		}
		if got := done(t, s, "create C/c ; create A/a"); got != fmt.Sprintf("Exists at 1 snap %d stamp 0 tick 0 tries 1", last) {
			t.Error(got)
		}
	}
	// A clash is told ahead of what is full; the next try is full.
	s := storeOf(t, api.Config{Versions: 1, Tracked: 4, Tries: 1})
	c, d := begun(t, s, 2, "update A/a n=2", 2), begun(t, s, 2, "once update A/a n=2", 2)
	lay(t, s, "create A/a n=1")
	if !d.Step() || c.Step() || c.Step() || !c.Step() {
		t.Error("steps")
	}
	tells(t, c, "Full at 0 snap 1 stamp 0 tick 0 tries 2", "")
	tells(t, d, "Conflict at 0 snap 0 stamp 0 tick 0 tries 1", "")
}

// unfit are requests that may not be, or that share names or keys.
func unfit(t *testing.T) []api.Request {
	many := parsed(t, "read A/a")
	for len(many.Entries) <= api.MaxEntries {
		many.Entries = append(many.Entries, many.Entries[0])
	}
	a := api.Key{Type: "A", ID: "a"}
	wild := api.Field{Name: "WILD", Texts: []string{"x"}}
	return []api.Request{
		{}, {Once: true}, {Entries: []api.Entry{}}, many,
		{Entries: []api.Entry{{}}},
		{Entries: []api.Entry{{Kind: 13, Key: a}}},
		{Entries: []api.Entry{{Kind: -1, Key: a}}},
		{Entries: []api.Entry{{Kind: api.EnRead, Key: api.Key{Type: "a", ID: "/"}}}},
		{Entries: []api.Entry{{Kind: api.EnRead, Key: a, Number: 1}}},
		{Entries: []api.Entry{{Kind: api.EnCreate, Key: a, Value: []api.Field{wild}}}},
		{Entries: []api.Entry{{Kind: api.EnSearch, Key: api.Key{Type: "A"}, Pred: []api.Term{{Field: "n", Op: 99}}}}},
		parsed(t, "create A/a ; delete A/a"),
		parsed(t, "once create @x A/a ; create @x A/b"),
	}
}

// What isn't fit is Malformed at the first step, with nothing else: P18.1.
func TestMalformed(t *testing.T) {
	s := small(t)
	s.Tick(4)
	lay(t, s, "create A/q")
	for _, r := range unfit(t) {
		for _, tries := range []int{-1, 1, 8} {
			c := New(s, tries, r)
			silent(t, c)
			if !c.Step() {
				t.Errorf("%+v: no end", r)
			}
			tells(t, c, "Malformed at 0 snap 0 stamp 0 tick 0 tries 0", "")
		}
	}
	if s.Open() != 0 || s.Last() != 1 || s.Count() != 1 {
		t.Error(s.Open(), s.Last(), s.Count())
	}
}

// hit makes and deletes A/a, so that each open transaction clashes that writes it, and finds it as it was when it is tried again.
func hit(t *testing.T, s *store.Store) {
	t.Helper()
	lay(t, s, "create A/a n=hit", "delete A/a")
}

// There are as many tries as are asked for, 1 to MaxTries; the last one that clashes is Tired: P18.1.
func TestTries(t *testing.T) {
	for _, tries := range []int{-1 << 63, -7, -1, 0, 1, 2, 3, 7, 8, 9, 100, 1<<63 - 1} {
		want := min(max(tries, 1), 8)
		for free := 1; free <= 9; free++ {
			s := small(t)
			c := begun(t, s, tries, "create A/a n=1", 1)
			for try := 1; !c.Ended() && try <= 20; try++ {
				silent(t, c)
				if c.Step(); try != free {
					hit(t, s)
				}
				c.Step()
			}
			answer, marks := fmt.Sprintf("Tired at 0 snap %d stamp 0 tick 0 tries %d", 2*want-2, want), ""
			if free <= want {
				last := 2 * (free - 1)
				answer = fmt.Sprintf("Success at 0 snap %d stamp %d tick 0 tries %d | made A/a %d.%d.0 (n=1)", last, last+1, free, last+1, last+1)
				marks = "A/a"
			}
			tells(t, c, answer, marks)
		}
	}
}

// Who is to be done once isn't tried again, however many tries there are, not even where there is one: P18.1.
func TestOnce(t *testing.T) {
	for tries := range 10 {
		s := small(t)
		c := begun(t, s, tries, "once read B/b ; create A/a n=1", 3)
		hit(t, s)
		if !c.Step() {
			t.Error("it is tried again")
		}
		tells(t, c, "Conflict at 0 snap 0 stamp 0 tick 0 tries 1", "")
		if got := done(t, s, "once create A/a n=1"); got != "Success at 0 snap 2 stamp 3 tick 0 tries 1 | made A/a 3.3.0 (n=1)" {
			t.Error(got)
		}
	}
}

// A run that failed, and one that only reads, may clash as well: P18.1. (A tracker that keeps none refuses all that others ran beside.)
func TestFailedRunsClash(t *testing.T) {
	for line, alone := range map[string]string{
		"read B/b ; create A/q":      "Exists at 1 snap 3 stamp 0 tick 0 tries 1",
		"read B/b ; update A/q if 7": "Mismatch at 1 snap 3 stamp 0 tick 0 tries 1",
		"read B/b ; delete B/c":      "Absent at 1 snap 3 stamp 0 tick 0 tries 1",
		"read B/b ; patch A/q n==7":  "Unfit at 1 snap 3 stamp 0 tick 0 tries 1",
		"create B/b ; ensure A/z ?":  "Several at 1 snap 3 stamp 0 tick 0 tries 1",
		"read B/b ; read A/q":        "Success at 0 snap 3 stamp 0 tick 0 tries 1 | missing | found A/q 1.1.0 ()",
	} {
		for _, once := range []string{"", "once "} {
			s := storeOf(t, api.Config{Versions: 99, Tracked: 0, Tries: 1})
			lay(t, s, "create A/q ; create A/r")
			other := begun(t, s, 1, "create C/c", 2)
			c := begun(t, s, 2, once+line, 1)
			for !c.run.Done() {
				c.Step()
			}
			if lay(t, s, "create D/d"); c.Step() != (once != "") {
				t.Error(once+line, show(c.Answer()))
			}
			if once != "" {
				tells(t, c, "Conflict at 0 snap 1 stamp 0 tick 0 tries 1", "")
				continue
			}
			for !c.run.Done() {
				c.Step()
			}
			lay(t, s, "delete D/d")
			c.Step()
			tells(t, c, "Tired at 0 snap 2 stamp 0 tick 0 tries 2", "")
			if other.Step(); show(other.Answer()) != "Tired at 0 snap 1 stamp 0 tick 0 tries 1" {
				t.Error(show(other.Answer()))
			}
			if got := done(t, s, line); got != alone {
				t.Error(line, got)
			}
		}
	}
}

// Two that read what the other writes: the second one clashes, and is done behind the first: P18.1.
func TestSkew(t *testing.T) {
	s := small(t)
	lay(t, s, "create A/x n=1 ; create A/y n=1")
	a, b := begun(t, s, 2, "read A/x ; update A/y n=2", 3), begun(t, s, 2, "read A/y ; update A/x n=2", 3)
	if !a.Step() || b.Step() || ended(t, b) != 3 {
		t.Error("steps")
	}
	tells(t, a, "Success at 0 snap 1 stamp 2 tick 0 tries 1 | found A/x 1.1.0 (n=1) | put A/y 2.2.0 (n=2)", "A/x A/y")
	tells(t, b, "Success at 0 snap 2 stamp 3 tick 0 tries 2 | found A/y 2.2.0 (n=2) | put A/x 2.3.0 (n=2)", "A/x A/y")
}

// Marks, Snap and replies are those of the last try alone: P18.1.
func TestLastTry(t *testing.T) {
	s := small(t)
	c := begun(t, s, 3, "ensure @x A/z n=1 ? n=1 ; update B/b r=*@x", 4)
	lay(t, s, "create A/a n=1", "create B/b")
	if n := ended(t, c); n != 5 {
		t.Error(n)
	}
	tells(t, c, "Success at 0 snap 2 stamp 3 tick 0 tries 2 | found A/a 1.1.0 (n=1) | put B/b 2.3.0 (r=*A/a)", "A/a B/b A(n=1)")
	// One that failed with Exists at its second try had read less than at its first.
	c = begun(t, s, 3, "create B/c ; update B/b if 2 n=3", 2)
	c.Step()
	lay(t, s, "create B/c")
	if n := ended(t, c); n != 3 {
		t.Error(n)
	}
	tells(t, c, "Exists at 0 snap 4 stamp 0 tick 0 tries 2", "B/c")
}

// Give ends what hasn't ended, at each step, with the zero answer; its transaction is given up: P18.1.
func TestGive(t *testing.T) {
	for steps := range 10 {
		s := small(t)
		c := begun(t, s, 2, "create A/a n=1 ; ensure A/b ? n=7", min(steps, 4))
		if steps > 4 {
			lay(t, s, "create A/a", "delete A/a")
			for range steps - 4 {
				c.Step()
			}
		}
		last, count := s.Last(), s.Count()
		if over := steps == 9; c.Give() == over || s.Open() != 0 || s.Last() != last || s.Count() != count {
			t.Error(steps, s.Open(), s.Last(), s.Count())
		}
		if steps < 9 {
			tells(t, c, zero, "")
		} else if c.Give() || show(c.Answer())[:7] != "Success" || showMarks(c.Marks()) == "" {
			t.Error(show(c.Answer()), showMarks(c.Marks()))
		}
		if c.Give() || s.Last() != last {
			t.Error(steps, s.Last())
		}
	}
	s := small(t)
	c := New(s, 1, api.Request{})
	if !c.Give() {
		t.Error("one that isn't fit is given up like any")
	}
	tells(t, c, zero, "")
}

// Of nil: P18.5.
func TestNil(t *testing.T) {
	if New(nil, 2, parsed(t, "create A/a")) != nil || New(nil, 2, api.Request{}) != nil {
		t.Error("a session without a store")
	}
	var c *Session
	for range 2 {
		a, m := c.Answer(), c.Marks()
		if !c.Step() || !c.Ended() || c.Give() || show(a) != zero || len(a.Replies) != 0 || len(m.Keys) != 0 || len(m.Ranges) != 0 {
			t.Error(c.Step(), c.Ended(), show(a), m)
		}
	}
}

// Behind its end a session keeps no more than it tells: LANGUAGE.md's rule 8.
func TestLetsGo(t *testing.T) {
	s := small(t)
	lay(t, s, "create A/q")
	for _, line := range []string{"create A/a n=1", "create A/q", "read A/q", "create A/a ; delete A/a"} {
		c := begun(t, s, 3, line, 0)
		ended(t, c)
		if c.store != nil || c.txn != nil || c.run != nil || c.request.Entries != nil {
			t.Errorf("%s: %+v", line, c)
		}
	}
	for _, r := range unfit(t) {
		if c := New(s, 3, r); c.request.Entries != nil {
			t.Errorf("%+v", c)
		}
	}
	c := begun(t, s, 3, "create A/b n=1", 2)
	if c.Give(); c.store != nil || c.txn != nil || c.run != nil || slices.ContainsFunc(c.request.Entries, op.Writes) {
		t.Errorf("%+v", c)
	}
}
