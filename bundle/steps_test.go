package bundle

import (
	"slices"
	"strconv"
	"strings"
	"testing"

	"folio/api"
	"folio/op"
	"folio/store"
)

// Which requests are fit, and the order of their steps: P17.1.
func TestFitAndOrder(t *testing.T) {
	for _, c := range []struct {
		line  string
		e     api.Errno
		order []int
	}{
		{"read A/a", api.OK, []int{0}},
		{"ensure A/a ?", api.OK, []int{0, 0}},
		{"read A/a ; ensure A/b ? a=1 ; create A/c ; delete A/d ; update A/e", api.OK, []int{3, 1, 1, 2, 4, 0}},
		{"create A/a ; ensure A/b ? ; create A/c ; ensure A/d ?", api.OK, []int{1, 3, 0, 1, 2, 3}},
		{"find 1 A ; at 1 A/a ; since A 1 ; history A/a 1 ; search A ; number A/a 1 ; read A/a ; patch A/a n~ ; update A/b ; create A/c ; delete A/d", api.OK, []int{10, 9, 8, 7, 0, 1, 2, 3, 4, 5, 6}},
		{"patch A/a n~ ; patch A/b n~ ; update A/c ; update A/d ; delete A/e ; delete A/f", api.OK, []int{4, 5, 2, 3, 0, 1}},
		{"read A/a ; read A/a ; delete A/a ; at 1 A/a ; history A/a 1", api.OK, []int{2, 0, 1, 3, 4}},
		{"create A/a ; create B/a ; create A/b", api.OK, []int{0, 1, 2}},
		{"create @x A/a ; ensure @y A/b ?", api.OK, []int{1, 0, 1}},
		{"create @x A/a r=*@x ; ensure @X A/b r=*@x ?", api.OK, []int{1, 0, 1}},
		{"once create A/a ; read A/a", api.OK, []int{0, 1}},
		{"create @x A/a ; create @x A/b", api.ErrTwice, nil},
		{"create @x A/a ; read A/a ; ensure @x A/b ?", api.ErrTwice, nil},
		{"update A/a ; delete A/a", api.ErrTwice, nil},
		{"read A/a ; create A/a ; read A/b ; patch A/a n~", api.ErrTwice, nil},
	} {
		r := parsed(t, c.line)
		if e := Fit(r); e != c.e {
			t.Errorf("%s: Fit is %v", c.line, e)
		}
		if l := Order(r); !slices.Equal(l, c.order) {
			t.Errorf("%s: Order is %v", c.line, l)
		}
		if b, e := New(r); e != c.e || (b == nil) != (e != api.OK) {
			t.Errorf("%s: New is %v, %v", c.line, b, e)
		}
	}
}

// Any two entries that write one key, and any two with one temporary name, are refused, wherever they stand: P17.1.
func TestTwice(t *testing.T) {
	writing := []string{"create A/a", "ensure A/a ?", "update A/a", "patch A/a n~", "delete A/a"}
	for _, a := range writing {
		for _, b := range writing {
			for _, line := range []string{a + " ; " + b, "read A/a ; " + a + " ; create B/a ; " + b, a + " ; at 1 A/a ; " + b + " ; delete A/b"} {
				if e := Fit(parsed(t, line)); e != api.ErrTwice {
					t.Errorf("%s: %v", line, e)
				}
			}
		}
		for _, b := range []string{"read A/a", "number A/a 1", "history A/a 0", "at 0 A/a", "search A", "since A 0", "find 0 A"} {
			if e := Fit(parsed(t, b+" ; "+a+" ; "+b)); e != api.OK {
				t.Errorf("%s, %s: %v", a, b, e)
			}
		}
	}
}

// malformed are requests that may not be.
func malformed() []api.Request {
	a := key("A", "a")
	request := func(l ...api.Entry) api.Request { return api.Request{Entries: l} }
	read := api.Entry{Kind: api.EnRead, Key: a}
	var many []api.Entry
	for range api.MaxEntries + 1 {
		many = append(many, read)
	}
	return []api.Request{
		{},
		{Once: true, Entries: []api.Entry{}},
		request(many...),
		request(api.Entry{}),
		request(api.Entry{Key: a}),
		request(read, api.Entry{Kind: 13, Key: a}),
		request(api.Entry{Kind: -1, Key: a}, read),
		request(api.Entry{Kind: api.EnRead}),
		request(api.Entry{Kind: api.EnRead, Key: key("a", "a")}),
		request(api.Entry{Kind: api.EnRead, Key: a, Temp: "x"}),
		request(api.Entry{Kind: api.EnSearch, Key: a}),
		request(api.Entry{Kind: api.EnDelete, Key: a, If: -1}),
		request(api.Entry{Kind: api.EnNumber, Key: a, Number: -1}),
		request(api.Entry{Kind: api.EnPatch, Key: a}),
		request(api.Entry{Kind: api.EnCreate, Key: a, Temp: "-"}),
		request(api.Entry{Kind: api.EnCreate, Key: a, Value: fields(one("n"))}),
		request(api.Entry{Kind: api.EnCreate, Key: a, Value: fields(one("b", "1"), one("a", "1"))}),
		request(api.Entry{Kind: api.EnEnsure, Key: a, Pred: []api.Term{{Field: "n", Op: 9}}}),
		request(api.Entry{Kind: api.EnEnsure, Key: a, Pred: []api.Term{{Field: "n", Op: api.OpHas}, {Field: "n", Op: api.OpHas}}}),
		// ErrForm stands ahead of ErrTwice.
		request(api.Entry{Kind: api.EnDelete, Key: a}, api.Entry{Kind: api.EnDelete, Key: a}, api.Entry{Kind: api.EnRead}),
	}
}

// A request that may not be is done by nobody: P17.1.
func TestMalformed(t *testing.T) {
	x := world(t).Begin()
	x.Put(key("Z", "z"), nil)
	for _, r := range malformed() {
		if e := Fit(r); e != api.ErrForm {
			t.Errorf("%+v: Fit is %v", r, e)
		}
		if l := Order(r); len(l) != 0 {
			t.Errorf("%+v: Order is %v", r, l)
		}
		if b, e := New(r); b != nil || e != api.ErrForm {
			t.Errorf("%+v: New is %v, %v", r, b, e)
		}
		fails(t, Do(x, r), 0, api.Malformed, 0)
	}
	fails(t, Do(x, parsed(t, "delete A/a ; create A/a")), 0, api.Malformed, 0)
	// It isn't a run that failed: nothing is dropped, nothing is read.
	if l := x.Changes(); len(l) != 1 || l[0].Key != key("Z", "z") || len(x.Marks().Keys) != 0 {
		t.Error(l, x.Marks())
	}
}

// A run goes on by one step at a time, and tells nothing till it is done: P17.1.
func TestStepByStep(t *testing.T) {
	s := world(t)
	x := s.Begin()
	b, _ := New(parsed(t, "read A/d ; create @x A/d r=*@x ; delete A/a ; ensure A/e n=8 ? n=8"))
	for i, keys := range []string{"A/a", "A/a", "A/a A/d", "A/a A/d A/e", "A/a A/d A/e"} {
		if b.Done() || b.Status() != 0 || b.At() != 0 || len(b.Replies()) != 0 {
			t.Fatal(i, b.Done(), b.Status(), b.At(), b.Replies())
		}
		if done := b.Step(x); done != (i == 4) || done != b.Done() {
			t.Fatal(i, done)
		}
		if got := written(x); got != keys {
			t.Fatalf("behind step %d %s is written, not %s", i, got, keys)
		}
	}
	want := []string{"found A/d 1.0.0 (r=*A/d)", "made A/d 1.0.0 (r=*A/d)", "dropped A/a 4.0.0 (not live)", "made A/e 1.0.0 (n=8)"}
	for range 2 {
		if b.Status() != api.Success || b.At() != 0 || !slices.Equal(shown(b.Replies()), want) {
			t.Fatal(b.Status(), b.At(), shown(b.Replies()))
		}
		// A run that is done does nothing more, in whatever transaction.
		y := s.Begin()
		if !b.Step(x) || !b.Step(y) || !b.Step(nil) || len(y.Changes()) != 0 || len(y.Marks().Keys) != 0 || len(x.Changes()) != 3 {
			t.Fatal(x.Changes(), y.Changes())
		}
	}
}

// written are the keys that a transaction has written.
func written(x *store.Txn) string {
	var l []string
	for _, c := range x.Changes() {
		l = append(l, c.Key.Type+"/"+c.Key.ID)
	}
	return strings.Join(l, " ")
}

// When a step fails, all that was written is dropped, what was written ahead of the run too, and the run is done: P17.1 and P17.2.
func TestFailedRun(t *testing.T) {
	s := world(t)
	x := s.Begin()
	x.Put(key("Z", "z"), nil)
	b, _ := New(parsed(t, "read A/c ; create A/d ; create A/a ; update A/c"))
	if b.Step(x) || written(x) != "A/d Z/z" {
		t.Fatal(written(x))
	}
	for range 3 {
		if !b.Step(x) || !b.Done() || b.Status() != api.Exists || b.At() != 2 || len(b.Replies()) != 0 || written(x) != "" || x.Ended() {
			t.Fatal(b.Done(), b.Status(), b.At(), b.Replies(), written(x))
		}
	}
	// What is behind the step that failed isn't read; what was is.
	if l := x.Marks().Keys; !slices.Equal(l, []api.Key{key("A", "a"), key("A", "d")}) {
		t.Error(l)
	}
	// A run that is done leaves alone what is written later.
	x.Put(key("Z", "z"), nil)
	if b.Step(x); written(x) != "Z/z" {
		t.Error(written(x))
	}
}

// In a transaction that is nil or has ended nothing happens, and the run can go on in another: P17.1.
func TestEndedTransaction(t *testing.T) {
	s := world(t)
	given, committed, refused := s.Begin(), s.Begin(), s.Begin()
	given.Give()
	committed.Commit()
	refused.Put(key("A", "a"), nil)
	commit(t, s, "update A/a")
	refused.Commit()
	r := parsed(t, "create A/d ; create A/e")
	for _, x := range []*store.Txn{nil, given, committed, refused} {
		for _, other := range append(malformed(), r) {
			if a := Do(x, other); a.Status != 0 || a.At != 0 || a.Snap != 0 || len(a.Replies) != 0 {
				t.Error(a)
			}
		}
		b, _ := New(r)
		y := s.Begin()
		for i, at := range []*store.Txn{x, y, x, y, x} {
			if done := b.Step(at); done != (i >= 3) || b.Done() != done {
				t.Fatal(i, done)
			}
		}
		if b.Status() != api.Success || written(y) != "A/d A/e" {
			t.Error(b.Status(), written(y))
		}
		y.Give()
	}
}

// Each step is done in the transaction that it is handed: P17.1.
func TestManyTransactions(t *testing.T) {
	s := world(t)
	x, y := s.Begin(), s.Begin()
	b, _ := New(parsed(t, "ensure A/z n=1 ? m=x ; update B/a n=2 ; create A/a"))
	y.Put(key("Z", "z"), nil)
	y.Delete(key("A", "a"))
	b.Step(x) // finds A/a
	b.Step(y) // tells what A/a is there
	b.Step(y) // makes A/a
	if written(x) != "" || written(y) != "A/a Z/z" || b.Done() {
		t.Fatal(written(x), written(y))
	}
	if !b.Step(x) || b.Status() != api.Success || written(x) != "B/a" || written(y) != "A/a Z/z" {
		t.Fatal(b.Status(), written(x), written(y))
	}
	want := []string{"found A/a 4.0.0 (not live)", "put B/a 2.0.0 (n=2)", "made A/a 4.0.0 ()"}
	if got := shown(b.Replies()); !slices.Equal(got, want) {
		t.Error(got)
	}
	// Only the transaction in which a step fails is dropped.
	b, _ = New(parsed(t, "update B/a n=3 ; patch A/q n~"))
	b.Step(x)
	if !b.Step(y) || b.Status() != api.Absent || b.At() != 1 || written(x) != "B/a" || written(y) != "" {
		t.Error(b.Status(), b.At(), written(x), written(y))
	}
	// A key that was found may be nothing by then.
	z := s.Begin()
	z.Put(key("C", "c"), nil)
	b, _ = New(parsed(t, "ensure C/d ?"))
	b.Step(z)
	z.Drop()
	b.Step(z)
	if got := shown(b.Replies()); !slices.Equal(got, []string{"found C/c 0.0.0 (not live)"}) {
		t.Error(got)
	}
}

// Requests see what their transaction has written ahead of them, but not in the past: P17.1.
func TestWrittenAhead(t *testing.T) {
	s := world(t)
	x := s.Begin()
	succeeds(t, Do(x, parsed(t, "create A/d n=5 ; update A/a n=5 ; delete A/c ; create B/b ; create A/b n=6")), 6,
		"made A/d 1.0.0 (n=5)", "put A/a 4.0.0 (n=5)", "dropped A/c 2.0.0 (not live)", "made B/b 1.0.0 ()", "made A/b 3.0.0 (n=6)")
	succeeds(t, Do(x, parsed(t, "create A/c n=5 ; patch A/a if 4 n+=6 ; search A n=5 ; read A/d ; at 9 A/a ; number A/a 4")), 6,
		"made A/c 2.0.0 (n=5)", "put A/a 4.0.0 (n=5 n=6)", "list A/a 4.0.0 (n=5 n=6) A/c 2.0.0 (n=5) A/d 1.0.0 (n=5)", "found A/d 1.0.0 (n=5)", "found A/a 3.5.4 (m=x n=1)", "missing")
	// What isn't live is what there was, where what was written is forgotten.
	succeeds(t, Do(x, parsed(t, "delete A/d if 1 ; delete A/a if 4 ; delete A/b if 3 ; read A/d ; read A/b")), 6,
		"dropped A/d 0.0.0 (not live)", "dropped A/a 4.0.0 (not live)", "dropped A/b 2.3.0 (not live)", "missing", "deleted A/b 2.3.0 (not live)")
	if got := written(x); got != "A/a A/c B/b" {
		t.Error(got)
	}
	fails(t, Do(x, parsed(t, "delete B/b ; ensure B/c ? ; delete A/a")), 6, api.Absent, 2)
	if written(x) != "" {
		t.Error(written(x))
	}
	succeeds(t, Do(x, parsed(t, "read A/a ; read A/c")), 6, "found A/a 3.5.4 (m=x n=1)", "found A/c 1.4.0 (n=1 n=2)")
}

// A request of as many entries as may be: P17.1.
func TestManyEntries(t *testing.T) {
	var lines, want []string
	var order []int
	for i := range api.MaxEntries {
		n := strconv.Itoa(i)
		lines = append(lines, "ensure @t"+n+" A/"+n+" n="+n+" r=*@t"+strconv.Itoa((i+1)%api.MaxEntries)+" ? n="+n)
		want = append(want, "made A/"+n+" 1.0.0 (n="+n+" r=*A/"+strconv.Itoa((i+1)%api.MaxEntries)+")")
		order = append(order, i)
	}
	r := parsed(t, strings.Join(lines, " ; "))
	if got := Order(r); !slices.Equal(got, slices.Concat(order, order)) {
		t.Error(got)
	}
	s := made(t)
	succeeds(t, Do(s.Begin(), r), 0, want...)
	// The longest names there are: a resolved text is no longer than a text may be.
	long := strings.Repeat("Z", api.MaxName)
	a := try(t, s, "create @"+long+" "+long+"/"+long+" r=*@"+long)
	if a.Status != api.Success || a.Replies[0].List[0].Version.Value[0].Texts[0] != "*"+long+"/"+long {
		t.Error(a)
	}
}

// Of a nil Run: P17.5.
func TestNil(t *testing.T) {
	var b *Run
	x := made(t).Begin()
	if !b.Step(x) || !b.Step(nil) || !b.Done() || b.Status() != 0 || b.At() != 0 || len(b.Replies()) != 0 {
		t.Error("a nil Run")
	}
}

// Stamped changes versions without a stamp alone: P17.1.
func TestStamped(t *testing.T) {
	v := fields(one("n", "1"))
	l := []api.Reply{
		{Kind: api.RepMissing},
		{Kind: api.RepMade, List: []api.Found{{Key: key("A", "a"), Version: api.Version{Number: 1, Live: true, Value: v}}}},
		{Kind: api.RepList, List: []api.Found{
			{Key: key("A", "a"), Version: api.Version{Number: 1, Stamp: 3, Tick: 2, Live: true, Value: v}},
			{Key: key("A", "b"), Version: api.Version{Number: 2, Tick: 9}},
			{},
		}},
		{Kind: 77},
	}
	want := []string{"missing", "made A/a 1.7.5 (n=1)", "list A/a 1.3.2 (n=1) A/b 2.7.5 (not live) / 0.7.5 (not live)"}
	got := Stamped(l, 7, 5)
	if len(got) != 4 || !slices.Equal(shown(got[:3]), want) || got[3].Kind != 77 || len(got[3].List) != 0 {
		t.Errorf("%+v", got)
	}
	if again := Stamped(got, 8, 6); !sameReplies(again, got) {
		t.Errorf("%+v", again)
	}
	// A stamp of 0 is laid too, with its tick.
	if got := Stamped(l, 0, 5); got[2].List[1].Version.Tick != 5 || got[1].List[0].Version.Stamp != 0 || got[2].List[0].Version.Tick != 2 {
		t.Errorf("%+v", got)
	}
	if got := Stamped(l, api.MaxStamp, -1); got[1].List[0].Version.Stamp != api.MaxStamp || got[1].List[0].Version.Tick != -1 {
		t.Errorf("%+v", got)
	}
	if len(Stamped(nil, 1, 1)) != 0 {
		t.Error("of no replies")
	}
}

// What is told of a request's own writes is, stamped, what is there behind its commit: P17.1.
func TestStampedIsCommitted(t *testing.T) {
	s := world(t)
	x := s.Begin()
	a := Do(x, parsed(t, "delete A/c ; create A/d n=5 ; update A/a n=5 ; patch B/a n:=5 ; search A ; ensure B/x ? n- ; read A/a"))
	s.Tick(3)
	stamp, e := x.Commit()
	if stamp != 7 || e != api.OK {
		t.Fatal(stamp, e)
	}
	for _, r := range Stamped(a.Replies, stamp, s.Tick(0)) {
		for _, f := range r.List {
			is, there := s.Visible(f.Key, stamp)
			if f.Key == key("B", "a") && f.Version.Number == 1 { // found ahead of the patch
				is, there = s.Visible(f.Key, 6)
			}
			if !there || !sameVersion(is, f.Version) {
				t.Errorf("%+v, not %+v", f, is)
			}
		}
	}
}

// Once is no matter here: P17.1.
func TestOnce(t *testing.T) {
	s := world(t)
	for _, line := range []string{"create A/d ; read A/d", "create A/a"} {
		r := parsed(t, line)
		want := Do(s.Begin(), r)
		r.Once = true
		if got := Do(s.Begin(), r); got.Status != want.Status || !sameReplies(got.Replies, want.Replies) {
			t.Error(got, want)
		}
		if !op.May(r) {
			t.Error(line)
		}
	}
}
