package store

import (
	"slices"
	"strconv"
	"testing"

	"folio/api"
	"folio/marks"
	"folio/value"
)

// The kinds of calls of a script.
const (
	cBegin = iota
	cTick
	cVacuum
	cRead
	cScan
	cPut
	cDelete
	cDrop
	cAt
	cFind
	cHistory
	cSince
	cNumber
	cCommit
	cGive
	cKinds
)

// call is one call of a script; of a transaction's the one with the number txn, from 0 on, in the order of their beginnings.
type call struct {
	kind  int
	txn   int
	key   api.Key
	typ   string
	pred  []api.Term
	value []api.Field
	at    uint64
	n     int64
}

// told is what a call answers. What is told of one version is a list of one; History's have their key.
type told struct {
	list  []api.Found
	stamp uint64
	n     int64
	yes   bool
	e     api.Errno
}

func sameVersion(a, b api.Version) bool {
	return a.Number == b.Number && a.Stamp == b.Stamp && a.Tick == b.Tick && a.Live == b.Live && value.Equal(a.Value, b.Value)
}

func sameFound(a, b api.Found) bool { return a.Key == b.Key && sameVersion(a.Version, b.Version) }

func sameChange(a, b api.Change) bool {
	return a.Key == b.Key && a.WasLive == b.WasLive && a.IsLive == b.IsLive && value.Equal(a.Was, b.Was) && value.Equal(a.Is, b.Is)
}

func sameTold(a, b told) bool {
	return a.stamp == b.stamp && a.n == b.n && a.yes == b.yes && a.e == b.e && slices.EqualFunc(a.list, b.list, sameFound)
}

// single is a version in a told; one that is told beside an error must be zero.
func single(k api.Key, v api.Version, e api.Errno) told {
	if e != api.OK && sameVersion(v, api.Version{}) {
		return told{e: e}
	}
	return told{list: []api.Found{{Key: k, Version: v}}, e: e}
}

func listed(k api.Key, l []api.Version, e api.Errno) told {
	var all []api.Found
	for _, v := range l {
		all = append(all, api.Found{Key: k, Version: v})
	}
	return told{list: all, e: e}
}

// real is a store with all transactions that were begun.
type real struct {
	store *Store
	txns  []*Txn
}

// do does a call.
func (r *real) do(c call) told {
	switch c.kind {
	case cBegin:
		r.txns = append(r.txns, r.store.Begin())
		return told{}
	case cTick:
		return told{n: r.store.Tick(c.n)}
	case cVacuum:
		f, n := r.store.Vacuum()
		return told{stamp: f, n: int64(n)}
	}
	x := r.txns[c.txn]
	switch c.kind {
	case cRead:
		v, e := x.Read(c.key)
		return single(c.key, v, e)
	case cScan:
		l, e := x.Scan(c.typ, c.pred)
		return told{list: l, e: e}
	case cPut:
		return told{e: x.Put(c.key, c.value)}
	case cDelete:
		return told{e: x.Delete(c.key)}
	case cDrop:
		x.Drop()
		return told{}
	case cAt:
		v, e := x.At(c.at, c.key)
		return single(c.key, v, e)
	case cFind:
		l, e := x.Find(c.at, c.typ, c.pred)
		return told{list: l, e: e}
	case cHistory:
		l, e := x.History(c.key, c.at)
		return listed(c.key, l, e)
	case cSince:
		l, e := x.Since(c.typ, c.at)
		return told{list: l, e: e}
	case cNumber:
		v, e := x.Number(c.key, int(c.n))
		return single(c.key, v, e)
	case cCommit:
		s, e := x.Commit()
		return told{stamp: s, e: e}
	}
	return told{yes: x.Give()}
}

// do does a call as the chapter spells it out.
func (p *plain) do(c call) told {
	switch c.kind {
	case cBegin:
		p.begin()
		return told{}
	case cTick:
		return told{n: p.ticked(c.n)}
	case cVacuum:
		f, n := p.vacuum()
		return told{stamp: f, n: int64(n)}
	}
	x := p.txns[c.txn]
	if x.ended {
		if c.kind == cDrop || c.kind == cGive {
			return told{}
		}
		return told{e: api.ErrOver}
	}
	return x.do(c)
}

// do does a call of a transaction that is open.
func (x *plainTxn) do(c call) told {
	switch c.kind {
	case cRead:
		v, e := x.read(c.key)
		return single(c.key, v, e)
	case cScan:
		l, e := x.scan(c.typ, c.pred)
		return told{list: l, e: e}
	case cPut:
		return told{e: x.put(c.key, c.value)}
	case cDelete:
		return told{e: x.remove(c.key)}
	case cDrop:
		x.written = nil
		return told{}
	case cAt:
		v, e := x.at(c.at, c.key)
		return single(c.key, v, e)
	case cFind:
		l, e := x.find(c.at, c.typ, c.pred)
		return told{list: l, e: e}
	case cHistory:
		l, e := x.history(c.key, c.at)
		return told{list: l, e: e}
	case cSince:
		l, e := x.since(c.typ, c.at)
		return told{list: l, e: e}
	case cNumber:
		v, e := x.number(c.key, int(c.n))
		return single(c.key, v, e)
	case cCommit:
		s, e := x.commit()
		return told{stamp: s, e: e}
	}
	x.ended = true
	return told{yes: true}
}

// unlike is what of the state of both isn't the same: "" if nothing.
func unlike(r *real, p *plain, keys []api.Key, stamps []uint64) string {
	s := r.store
	if s.Last() != p.last || s.Floor() != p.floor || s.Count() != p.count() || s.Open() != p.open() {
		return "Last, Floor, Count or Open"
	}
	if s.Tracked() != len(p.done) {
		return "Tracked " + strconv.Itoa(s.Tracked())
	}
	if s.Tick(0) != p.tick {
		return "the clock"
	}
	for _, k := range keys {
		for _, t := range stamps {
			v, there := s.Visible(k, t)
			if w, is := p.visible(k, t); there != is || !sameVersion(v, w) {
				return "Visible"
			}
		}
	}
	for i, x := range r.txns {
		y := p.txns[i]
		if x.Snap() != y.snap || x.Ended() != y.ended {
			return "Snap or Ended of " + strconv.Itoa(i)
		}
		m, changes := y.marked, y.changes()
		if y.ended {
			m, changes = api.Marks{}, nil
		}
		if !marks.Equal(x.Marks(), m) {
			return "Marks of " + strconv.Itoa(i)
		}
		if !slices.EqualFunc(x.Changes(), changes, sameChange) {
			return "Changes of " + strconv.Itoa(i)
		}
	}
	return ""
}

// follow does a script with both, and holds all that is told, and the state behind each call, against each other.
func follow(t *testing.T, c api.Config, script []call, keys []api.Key, stamps []uint64) {
	t.Helper()
	s, e := New(c)
	if e != api.OK {
		t.Fatal(e)
	}
	r, p := &real{store: s}, &plain{config: c, last: c.First}
	for i, step := range script {
		if got, want := r.do(step), p.do(step); !sameTold(got, want) {
			t.Fatalf("%+v: call %d of %+v: %+v, not %+v", c, i, script, got, want)
		}
		if what := unlike(r, p, keys, stamps); what != "" {
			t.Fatalf("%+v: behind call %d of %+v: %s", c, i, script, what)
		}
	}
}
