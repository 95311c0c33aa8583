package store

import (
	"slices"
	"strconv"
	"testing"

	"folio/api"
	"folio/marks"
	"folio/value"
)

func n(text string) []api.Field { return fields(one("n", text)) }

// commits is whether a commit answers so.
func commits(t *testing.T, x *Txn, stamp uint64, e api.Errno) {
	t.Helper()
	if s, err := x.Commit(); s != stamp || err != e || !x.Ended() {
		t.Errorf("Commit: %d, %v, ended %v, not %d, %v", s, err, x.Ended(), stamp, e)
	}
}

// puts commits one key by a transaction of its own.
func puts(t *testing.T, s *Store, k api.Key, v []api.Field) {
	t.Helper()
	x := s.Begin()
	if e := x.Put(k, v); e != api.OK {
		t.Error(e)
	}
	commits(t, x, s.Last()+1, api.OK)
}

func reads(t *testing.T, x *Txn, k api.Key, want api.Version, e api.Errno) {
	t.Helper()
	if v, err := x.Read(k); !sameVersion(v, want) || err != e {
		t.Errorf("Read %v: %v, %v, not %v, %v", k, v, err, want, e)
	}
}

func nine(t *testing.T) *Store {
	t.Helper()
	return made(t, api.Config{Versions: 9, Tracked: 4, Tries: 1})
}

// The chapter's examples.
func TestExamples(t *testing.T) {
	a, b, c, d := key("A", "a"), key("A", "b"), key("A", "c"), key("A", "d")
	s := nine(t)
	t1, t2 := s.Begin(), s.Begin()
	if t1.Snap() != 0 || t2.Snap() != 0 || s.Open() != 2 {
		t.Error(t1.Snap(), t2.Snap(), s.Open())
	}
	t1.Put(a, n("1"))
	commits(t, t1, 1, api.OK)
	reads(t, t2, a, api.Version{}, api.ErrNone)
	t2.Put(a, n("2"))
	commits(t, t2, 0, api.ErrClash)
	t3, t4 := s.Begin(), s.Begin()
	reads(t, t3, a, api.Version{Number: 1, Stamp: 1, Live: true, Value: n("1")}, api.OK)
	t3.Put(b, n("x"))
	commits(t, t3, 2, api.OK)
	reads(t, t4, b, api.Version{}, api.ErrNone)
	t4.Put(c, n("y"))
	commits(t, t4, 3, api.OK)
	if f, gone := s.Vacuum(); f != 3 || gone != 0 {
		t.Error(f, gone)
	}
	t5 := s.Begin()
	if e := t5.Put(d, nil); e != api.OK {
		t.Error(e)
	}
	if e := t5.Delete(d); e != api.OK || len(t5.Changes()) != 0 {
		t.Error(e, t5.Changes())
	}
	commits(t, t5, 0, api.OK)
}

// The chapter's example of one that points at a done one, and at which that one points.
func TestSkew(t *testing.T) {
	a, b := key("A", "a"), key("A", "b")
	s := nine(t)
	puts(t, s, a, n("1"))
	t3, t4 := s.Begin(), s.Begin()
	t3.Read(a)
	t3.Put(b, n("x"))
	commits(t, t3, 2, api.OK)
	reads(t, t4, b, api.Version{}, api.ErrNone)
	t4.Put(a, n("y"))
	commits(t, t4, 0, api.ErrClash)
	if v, _ := s.Visible(a, api.MaxStamp); v.Stamp != 1 || s.Open() != 0 || s.Count() != 2 {
		t.Error(v, s.Open(), s.Count())
	}
}

// New takes the limits and nothing beyond them: P15.1.
func TestNew(t *testing.T) {
	good := api.Config{Versions: 1, Tracked: 0, Tries: 1}
	for _, c := range []api.Config{good, {Versions: api.MaxVersions, Tracked: api.MaxTracked, Tries: api.MaxTries, First: api.MaxStamp}, {Versions: 1, Tries: 1, First: 7}} {
		s := made(t, c)
		if s.Last() != c.First || s.Floor() != 0 || s.Count() != 0 || s.Open() != 0 || s.Tracked() != 0 || s.Tick(0) != 0 {
			t.Errorf("%+v: %d, %d, %d, %d, %d", c, s.Last(), s.Floor(), s.Count(), s.Open(), s.Tracked())
		}
		if x := s.Begin(); x.Snap() != c.First || x.Ended() || len(x.Changes()) != 0 || !marks.Equal(x.Marks(), api.Marks{}) {
			t.Errorf("%+v: Begin at %d", c, x.Snap())
		}
	}
	big := int(^uint(0) >> 1)
	for _, bad := range []int{0, -1, -big - 1, api.MaxVersions + 1, big} {
		c := good
		c.Versions = bad
		refusesConfig(t, c)
	}
	for _, bad := range []int{-1, -big - 1, api.MaxTracked + 1, big} {
		c := good
		c.Tracked = bad
		refusesConfig(t, c)
	}
	for _, bad := range []int{0, -1, -big - 1, api.MaxTries + 1, big} {
		c := good
		c.Tries = bad
		refusesConfig(t, c)
	}
	refusesConfig(t, api.Config{})
}

func refusesConfig(t *testing.T, c api.Config) {
	t.Helper()
	if s, e := New(c); s != nil || e != api.ErrArg {
		t.Errorf("New(%+v): %v, %v", c, s, e)
	}
}

// What a key is for the transaction: its own write ahead of what is at the snapshot, with the next number and no stamp.
func TestOwnWrites(t *testing.T) {
	a, b := key("A", "a"), key("A", "b")
	s := nine(t)
	s.Tick(5)
	puts(t, s, a, n("1"))
	puts(t, s, a, n("2"))
	x := s.Begin()
	x.Put(a, n("3"))
	x.Put(b, nil)
	reads(t, x, a, api.Version{Number: 3, Live: true, Value: n("3")}, api.OK)
	reads(t, x, b, api.Version{Number: 1, Live: true}, api.OK)
	found, e := x.Scan("A", terms(is("n", "3")))
	if want := []api.Found{{Key: a, Version: api.Version{Number: 3, Live: true, Value: n("3")}}}; e != api.OK || !slices.EqualFunc(found, want, sameFound) {
		t.Error(found, e)
	}
	if found, _ := x.Scan("A", terms(is("n", "2"))); len(found) != 0 {
		t.Error(found)
	}
	x.Delete(a)
	reads(t, x, a, api.Version{Number: 3}, api.OK)
	if e := x.Delete(a); e != api.ErrNone {
		t.Error(e)
	}
	if found, _ := x.Scan("A", nil); len(found) != 1 || found[0].Key != b || found[0].Version.Number != 1 {
		t.Error(found)
	}
	x.Put(a, n("4"))
	reads(t, x, a, api.Version{Number: 3, Live: true, Value: n("4")}, api.OK)
	x.Drop()
	reads(t, x, a, api.Version{Number: 2, Stamp: 2, Tick: 5, Live: true, Value: n("2")}, api.OK)
	reads(t, x, b, api.Version{}, api.ErrNone)
	commits(t, x, 0, api.OK)
}

// Delete writes where a live version is at the snapshot, and forgets what was written else.
func TestDelete(t *testing.T) {
	a, b := key("A", "a"), key("A", "b")
	s := nine(t)
	puts(t, s, a, n("1"))
	x := s.Begin()
	if e := x.Delete(b); e != api.ErrNone || len(x.Changes()) != 0 {
		t.Error(e, x.Changes())
	}
	if e := x.Delete(a); e != api.OK {
		t.Error(e)
	}
	if l := x.Changes(); !slices.EqualFunc(l, []api.Change{{Key: a, WasLive: true, Was: n("1")}}, sameChange) {
		t.Error(l)
	}
	if l := x.Marks().Keys; !slices.Equal(l, []api.Key{a, b}) {
		t.Error(l)
	}
	commits(t, x, 2, api.OK)
	x = s.Begin()
	reads(t, x, a, api.Version{Number: 2, Stamp: 2}, api.OK)
	if e := x.Delete(a); e != api.ErrNone {
		t.Error(e)
	}
	x.Put(a, n("3"))
	if l := x.Changes(); !slices.EqualFunc(l, []api.Change{{Key: a, IsLive: true, Is: n("3")}}, sameChange) {
		t.Error(l)
	}
	if e := x.Delete(a); e != api.OK || len(x.Changes()) != 0 {
		t.Error(e, x.Changes())
	}
	reads(t, x, a, api.Version{Number: 2, Stamp: 2}, api.OK)
	commits(t, x, 0, api.OK)
	if s.Last() != 2 || s.Count() != 2 {
		t.Error(s.Last(), s.Count())
	}
}

// Errors come in the order in which the chapter names them, and one that has ended answers ErrOver alone.
func TestErrors(t *testing.T) {
	s := nine(t)
	x := s.Begin()
	bad, a := key("a", "A"), key("A", "a")
	wrong, unfit := fields(one("n")), terms(api.Term{Field: "n", Op: 99})
	if e := x.Put(bad, wrong); e != api.ErrName {
		t.Error(e)
	}
	if e := x.Put(a, wrong); e != api.ErrField {
		t.Error(e)
	}
	if e := x.Delete(bad); e != api.ErrName {
		t.Error(e)
	}
	reads(t, x, bad, api.Version{}, api.ErrName)
	if l, e := x.Scan("A", unfit); len(l) != 0 || e != api.ErrArg {
		t.Error(l, e)
	}
	if _, e := x.At(0, bad); e != api.ErrName {
		t.Error(e)
	}
	if _, e := x.Find(0, "A", unfit); e != api.ErrArg {
		t.Error(e)
	}
	if _, e := x.History(bad, 0); e != api.ErrName {
		t.Error(e)
	}
	if _, e := x.Number(bad, 0); e != api.ErrName {
		t.Error(e)
	}
	if _, e := x.Number(a, 0); e != api.ErrArg {
		t.Error(e)
	}
	if !marks.Equal(x.Marks(), api.Marks{}) || len(x.Changes()) != 0 {
		t.Error(x.Marks(), x.Changes())
	}
	x.Put(a, nil)
	x.Read(a)
	x.Give()
	over(t, x)
	x = s.Begin()
	x.Put(a, nil)
	x.Read(a)
	commits(t, x, 1, api.OK)
	over(t, x)
	x, y := s.Begin(), s.Begin()
	x.Put(a, nil)
	y.Put(a, nil)
	commits(t, x, 2, api.OK)
	commits(t, y, 0, api.ErrClash)
	over(t, y)
	if y.Snap() != 1 {
		t.Error(y.Snap())
	}
}

// over looks whether a transaction has ended, at all of its calls, with right arguments and with wrong ones.
func over(t *testing.T, x *Txn) {
	t.Helper()
	for _, k := range []api.Key{key("A", "a"), {}} {
		for _, p := range [][]api.Term{nil, terms(api.Term{})} {
			for _, v := range [][]api.Field{nil, fields(api.Field{})} {
				r := &real{txns: []*Txn{x}}
				for kind := cRead; kind < cKinds; kind++ {
					want := told{e: api.ErrOver}
					if kind == cDrop || kind == cGive {
						want = told{}
					}
					if got := r.do(call{kind: kind, key: k, pred: p, value: v}); !sameTold(got, want) {
						t.Errorf("call %d: %+v", kind, got)
					}
				}
			}
		}
	}
	if !x.Ended() || !marks.Equal(x.Marks(), api.Marks{}) || len(x.Changes()) != 0 {
		t.Error(x.Ended(), x.Marks(), x.Changes())
	}
}

// What each call marks, and where it marks nothing: P15.1.
func TestMarks(t *testing.T) {
	a, b := key("A", "a"), key("A", "b")
	p := terms(is("o", "x"), is("n", "x"), is("o", "x"))
	r := api.Range{Type: "A", Pred: terms(is("n", "x"), is("o", "x"))}
	keyed, ranged, whole := api.Marks{Keys: []api.Key{b}}, api.Marks{Ranges: []api.Range{r}}, api.Marks{Ranges: []api.Range{{Type: "A"}}}
	for i, c := range []struct {
		call call
		want api.Marks
	}{
		{call{kind: cRead, key: b}, keyed},
		{call{kind: cRead, key: key("A", "")}, api.Marks{}},
		{call{kind: cScan, typ: "A", pred: p}, ranged},
		{call{kind: cScan, typ: "A", pred: terms(is("n", "x"), is("", "x"))}, api.Marks{}},
		{call{kind: cScan, typ: ""}, api.Marks{Ranges: []api.Range{{}}}},
		{call{kind: cPut, key: b}, api.Marks{}},
		{call{kind: cDelete, key: b}, keyed},
		{call{kind: cDrop}, api.Marks{}},
		{call{kind: cAt, key: b, at: 1}, api.Marks{}},
		{call{kind: cAt, key: b, at: 2}, api.Marks{}},
		{call{kind: cAt, key: b, at: 3}, api.Marks{}},
		{call{kind: cAt, key: b, at: 4}, keyed},
		{call{kind: cFind, typ: "A", pred: p, at: 1}, api.Marks{}},
		{call{kind: cFind, typ: "A", pred: p, at: 3}, api.Marks{}},
		{call{kind: cFind, typ: "A", pred: p, at: 4}, ranged},
		{call{kind: cFind, typ: "A", pred: terms(api.Term{}), at: 4}, api.Marks{}},
		{call{kind: cHistory, key: b, at: 1}, api.Marks{}},
		{call{kind: cHistory, key: b, at: 2}, keyed},
		{call{kind: cHistory, key: b, at: 4}, keyed},
		{call{kind: cSince, typ: "A", at: 1}, api.Marks{}},
		{call{kind: cSince, typ: "A", at: 2}, whole},
		{call{kind: cSince, typ: "A", at: api.MaxStamp}, whole},
		{call{kind: cNumber, key: b, n: 0}, api.Marks{}},
		{call{kind: cNumber, key: b, n: 1}, keyed},
		{call{kind: cNumber, key: a, n: 1}, api.Marks{}},
		{call{kind: cNumber, key: a, n: 2}, api.Marks{}},
		{call{kind: cNumber, key: a, n: 4}, api.Marks{Keys: []api.Key{a}}},
	} {
		// A/a's versions have the stamps 1, 2, 3; the floor is 2, and number 1 is gone.
		s := nine(t)
		puts(t, s, a, nil)
		puts(t, s, a, n("x"))
		s.Vacuum()
		puts(t, s, a, n("y"))
		txn := &real{store: s, txns: []*Txn{s.Begin()}}
		for range 2 {
			txn.do(c.call)
			if got := txn.txns[0].Marks(); !marks.Equal(got, c.want) {
				t.Errorf("%d: %+v marks %+v, not %+v", i, c.call, got, c.want)
			}
		}
	}
}

// What was marked stays marked when the writes are dropped, keys rising, ranges in their order, none twice.
func TestMarksStay(t *testing.T) {
	s := nine(t)
	x := s.Begin()
	x.Scan("B", nil)
	x.Read(key("B", "b"))
	x.Scan("A", terms(is("n", "x"), is("n", "x")))
	x.Put(key("A", "a"), nil)
	x.Delete(key("A", "a"))
	x.Scan("A", terms(is("n", "x")))
	x.Drop()
	want := api.Marks{
		Keys:   []api.Key{key("A", "a"), key("B", "b")},
		Ranges: []api.Range{{Type: "B"}, {Type: "A", Pred: terms(is("n", "x"))}},
	}
	if got := x.Marks(); !marks.Equal(got, want) {
		t.Errorf("%+v", got)
	}
}

// Reads of the past go through the window of the floor and the snapshot, and don't see what is written.
func TestPast(t *testing.T) {
	a := key("A", "a")
	s := nine(t)
	puts(t, s, a, n("1"))
	puts(t, s, a, n("2"))
	x := s.Begin()
	puts(t, s, a, n("3"))
	x.Put(a, n("own"))
	first, second := api.Version{Number: 1, Stamp: 1, Live: true, Value: n("1")}, api.Version{Number: 2, Stamp: 2, Live: true, Value: n("2")}
	for at, want := range map[uint64]api.Version{1: first, 2: second, 3: second, api.MaxStamp: second} {
		if v, e := x.At(at, a); e != api.OK || !sameVersion(v, want) {
			t.Errorf("At %d: %v, %v", at, v, e)
		}
		if l, e := x.Find(at, "A", nil); e != api.OK || len(l) != 1 || !sameVersion(l[0].Version, want) {
			t.Errorf("Find %d: %v, %v", at, l, e)
		}
	}
	if l, e := x.History(a, 0); e != api.OK || !slices.EqualFunc(l, []api.Version{first, second}, sameVersion) {
		t.Error(l, e)
	}
	if l, e := x.Since("A", 1); e != api.OK || len(l) != 1 || !sameFound(l[0], api.Found{Key: a, Version: second}) {
		t.Error(l, e)
	}
	if v, e := x.Number(a, 3); e != api.ErrNone || !sameVersion(v, api.Version{}) {
		t.Error(v, e)
	}
	if f, gone := s.Vacuum(); f != 2 || gone != 1 {
		t.Error(f, gone)
	}
	if _, e := x.At(1, a); e != api.ErrOld {
		t.Error(e)
	}
	if _, e := x.Find(1, "A", nil); e != api.ErrOld {
		t.Error(e)
	}
	if _, e := x.History(a, 1); e != api.ErrOld {
		t.Error(e)
	}
	if _, e := x.Since("A", 1); e != api.ErrOld {
		t.Error(e)
	}
	if _, e := x.Number(a, 1); e != api.ErrOld {
		t.Error(e)
	}
	reads(t, x, a, api.Version{Number: 3, Live: true, Value: n("own")}, api.OK)
}

// Of what refuses a commit the first is told: ErrClash, then ErrFull, then ErrSpent; nothing written is neither full nor spent.
func TestRefusals(t *testing.T) {
	a, b := key("A", "a"), key("A", "b")
	s := made(t, api.Config{Versions: 1, Tries: 1, Tracked: 4, First: api.MaxStamp - 1})
	x, y, z, w := s.Begin(), s.Begin(), s.Begin(), s.Begin()
	x.Put(a, nil)
	commits(t, x, api.MaxStamp, api.OK)
	y.Put(a, nil)
	commits(t, y, 0, api.ErrClash)
	z.Put(b, nil)
	commits(t, z, 0, api.ErrFull)
	w.Read(b)
	commits(t, w, 0, api.OK)
	s = made(t, api.Config{Versions: 2, Tries: 1, First: api.MaxStamp})
	x = s.Begin()
	x.Put(a, nil)
	x.Put(b, nil)
	commits(t, x, 0, api.ErrSpent)
	x = s.Begin()
	x.Read(a)
	commits(t, x, 0, api.OK)
	if s.Count() != 0 || s.Last() != api.MaxStamp || s.Open() != 0 {
		t.Error(s.Count(), s.Last(), s.Open())
	}
}

// A vacuum makes room, and a commit may fill it up to the last version, but not beyond.
func TestRoom(t *testing.T) {
	a := key("A", "a")
	s := made(t, api.Config{Versions: 3, Tries: 1})
	for range 3 {
		puts(t, s, a, nil)
	}
	x := s.Begin()
	x.Put(a, nil)
	commits(t, x, 0, api.ErrFull)
	if f, gone := s.Vacuum(); f != 3 || gone != 2 || s.Count() != 1 {
		t.Error(f, gone, s.Count())
	}
	x = s.Begin()
	x.Put(a, nil)
	x.Put(key("A", "b"), nil)
	x.Put(key("A", "c"), nil)
	commits(t, x, 0, api.ErrFull)
	x = s.Begin()
	x.Put(a, nil)
	x.Put(key("A", "b"), nil)
	commits(t, x, 4, api.OK)
	if s.Count() != 3 || s.Last() != 4 {
		t.Error(s.Count(), s.Last())
	}
}

// The tracker keeps a done one that has read or written till the next such one is committed and none that is open runs beside it: P15.1.
func TestTracked(t *testing.T) {
	a, b := key("A", "a"), key("A", "b")
	s := nine(t)
	puts(t, s, a, nil)
	tracked(t, s, 0)
	old, empty := s.Begin(), s.Begin()
	puts(t, s, a, nil)
	tracked(t, s, 1)
	x := s.Begin()
	x.Read(b)
	commits(t, x, 0, api.OK)
	tracked(t, s, 2)
	commits(t, empty, 0, api.OK)
	tracked(t, s, 2)
	young := s.Begin()
	puts(t, s, b, nil)
	tracked(t, s, 3)
	old.Give()
	tracked(t, s, 3)
	puts(t, s, key("A", "c"), nil)
	tracked(t, s, 2)
	commits(t, young, 0, api.OK)
	tracked(t, s, 2)
	puts(t, s, a, nil)
	tracked(t, s, 0)
}

// A commit of one that has neither marks nor changes leaves the tracker as it is, also where all that was written is forgotten; a mark alone or a change alone does not: P15.1.
func TestTrackedEmpty(t *testing.T) {
	a := key("A", "a")
	plays := []struct {
		name string
		does func(x *Txn)
		want int
	}{
		{"nothing", func(x *Txn) {}, 1},
		{"Put and Drop", func(x *Txn) { x.Put(a, nil); x.Drop() }, 1},
		{"At below", func(x *Txn) { x.At(0, a) }, 1},
		{"a wrong key", func(x *Txn) { x.Read(api.Key{}) }, 1},
		{"Read", func(x *Txn) { x.Read(a) }, 0},
		{"Scan", func(x *Txn) { x.Scan("A", nil) }, 0},
		{"Put", func(x *Txn) { x.Put(key("A", "b"), nil) }, 0},
		{"Put and Delete", func(x *Txn) { x.Put(key("A", "b"), nil); x.Delete(key("A", "b")) }, 0},
	}
	for _, play := range plays {
		s := nine(t)
		x, y := s.Begin(), s.Begin()
		x.Put(a, nil)
		commits(t, x, 1, api.OK)
		play.does(y)
		if _, e := y.Commit(); e != api.OK || s.Tracked() != play.want || s.Open() != 0 {
			t.Error(play.name, e, s.Tracked(), s.Open())
		}
	}
}

func tracked(t *testing.T, s *Store, want int) {
	t.Helper()
	if s.Tracked() != want {
		t.Errorf("Tracked: %d, not %d", s.Tracked(), want)
	}
}

// One that runs beside a done one that the tracker has no room for is refused, whatever it has read.
func TestSummary(t *testing.T) {
	s := made(t, api.Config{Versions: 9, Tries: 1})
	x := s.Begin()
	puts(t, s, key("A", "a"), nil)
	tracked(t, s, 0)
	commits(t, x, 0, api.ErrClash)
	x = s.Begin()
	x.Read(key("A", "a"))
	commits(t, x, 0, api.OK)
}

// Versions have the clock's tick at their commit, not at their transaction's beginning.
func TestTick(t *testing.T) {
	s := nine(t)
	if s.Tick(3) != 3 || s.Tick(-1) != 3 || s.Tick(0) != 3 {
		t.Error(s.Tick(0))
	}
	x := s.Begin()
	x.Put(key("A", "a"), n("1"))
	x.Put(key("A", "b"), nil)
	if s.Tick(4) != 7 {
		t.Error(s.Tick(0))
	}
	commits(t, x, 1, api.OK)
	if s.Tick(api.MaxTick) != api.MaxTick {
		t.Error(s.Tick(0))
	}
	for _, id := range []string{"a", "b"} {
		if v, there := s.Visible(key("A", id), 1); !there || v.Tick != 7 || v.Stamp != 1 {
			t.Error(v, there)
		}
	}
	if v, there := s.Visible(key("A", "a"), 0); there || !sameVersion(v, api.Version{}) {
		t.Error(v, there)
	}
}

// Many keys and many transactions: each key of its own, none clashes.
func TestMany(t *testing.T) {
	s := made(t, api.Config{Versions: api.MaxVersions, Tracked: api.MaxTracked, Tries: 1})
	var l []*Txn
	for i := range 300 {
		x := s.Begin()
		k := key("A", strconv.Itoa(i))
		x.Put(k, n(strconv.Itoa(i)))
		l = append(l, x)
	}
	for i, x := range l[:api.MaxTracked] {
		commits(t, x, uint64(i)+1, api.OK)
	}
	// The one beyond is the first whom the tracker has no room for: those that run beside it are refused.
	commits(t, l[api.MaxTracked], api.MaxTracked+1, api.OK)
	commits(t, l[api.MaxTracked+1], 0, api.ErrClash)
	if s.Tracked() != api.MaxTracked || s.Count() != api.MaxTracked+1 {
		t.Error(s.Tracked(), s.Count())
	}
}

// A nil Store begins nothing, a nil Txn has ended: P15.7.
func TestNil(t *testing.T) {
	var s *Store
	if s.Begin() != nil || s.Tick(1) != 0 || s.Last() != 0 || s.Floor() != 0 || s.Count() != 0 || s.Open() != 0 || s.Tracked() != 0 {
		t.Error("a nil Store")
	}
	if f, gone := s.Vacuum(); f != 0 || gone != 0 {
		t.Error(f, gone)
	}
	if v, there := s.Visible(key("A", "a"), 1); there || v.Number != 0 || !value.Equal(v.Value, nil) {
		t.Error(v, there)
	}
	var x *Txn
	over(t, x)
	if x.Snap() != 0 || x.Give() {
		t.Error(x.Snap())
	}
}
