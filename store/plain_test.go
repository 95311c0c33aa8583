package store

import (
	"slices"

	"folio/api"
	"folio/marks"
	"folio/name"
	"folio/pred"
	"folio/value"
)

// plain is a store spelt out: all versions that were ever committed, and which of them are gone.
type plain struct {
	config      api.Config
	last, floor uint64
	tick        int64
	rows        []row
	done        []api.Done
	summary     uint64
	txns        []*plainTxn
}

type row struct {
	api.Found
	gone bool
}

// plainTxn is a transaction spelt out.
type plainTxn struct {
	store   *plain
	snap    uint64
	ended   bool
	written []written // in the order of their calls: of each key the last one counts
	marked  api.Marks
}

type written struct {
	key       api.Key
	live      bool
	value     []api.Field
	forgotten bool
}

// of are the versions of a key that are there, by rising stamps.
func (p *plain) of(k api.Key) []api.Version {
	var l []api.Version
	for _, r := range p.rows {
		if r.Key == k && !r.gone {
			l = append(l, r.Version)
		}
	}
	slices.SortFunc(l, func(a, b api.Version) int {
		if a.Stamp < b.Stamp {
			return -1
		}
		return 1
	})
	return l
}

// keys are all keys that were ever put, in order.
func (p *plain) keys() []api.Key {
	var l []api.Key
	for _, r := range p.rows {
		l = append(l, r.Key)
	}
	return name.Sort(l)
}

// visible is the version of a key with the greatest stamp that is t or less.
func (p *plain) visible(k api.Key, t uint64) (api.Version, bool) {
	var v api.Version
	there := false
	for _, w := range p.of(k) {
		if w.Stamp <= t {
			v, there = w, true
		}
	}
	return v, there
}

// put lays a version of a key, whose number is one more than that of all that were ever put.
func (p *plain) put(k api.Key, stamp uint64, tick int64, live bool, v []api.Field) {
	n := 1
	for _, r := range p.rows {
		if r.Key == k {
			n++
		}
	}
	p.rows = append(p.rows, row{Found: api.Found{Key: k, Version: api.Version{Number: n, Stamp: stamp, Tick: tick, Live: live, Value: v}}})
}

func (p *plain) count() int {
	n := 0
	for _, r := range p.rows {
		if !r.gone {
			n++
		}
	}
	return n
}

func (p *plain) open() int {
	n := 0
	for _, x := range p.txns {
		if !x.ended {
			n++
		}
	}
	return n
}

// least is the least of the last stamp and all open snapshots.
func (p *plain) least() uint64 {
	least := p.last
	for _, x := range p.txns {
		if !x.ended {
			least = min(least, x.snap)
		}
	}
	return least
}

func (p *plain) begin() {
	p.txns = append(p.txns, &plainTxn{store: p, snap: p.last})
}

func (p *plain) ticked(n int64) int64 {
	if n > 0 {
		p.tick = min(p.tick+n, api.MaxTick)
	}
	return p.tick
}

// vacuum lets go each version behind which another one of its key stands, at the floor or below.
func (p *plain) vacuum() (uint64, int) {
	p.floor = p.least()
	went := 0
	for i, r := range p.rows {
		later := slices.ContainsFunc(p.of(r.Key), func(v api.Version) bool {
			return v.Stamp > r.Version.Stamp && v.Stamp <= p.floor
		})
		if !r.gone && later {
			p.rows[i].gone = true
			went++
		}
	}
	return p.floor, went
}

// wrote is what was written for a key last, and not forgotten.
func (x *plainTxn) wrote(k api.Key) (written, bool) {
	for _, w := range slices.Backward(x.written) {
		if w.key == k {
			return w, !w.forgotten
		}
	}
	return written{}, false
}

// now is what a key is for the transaction.
func (x *plainTxn) now(k api.Key) (api.Version, bool) {
	was, there := x.store.visible(k, x.snap)
	w, wrote := x.wrote(k)
	if !wrote {
		return was, there
	}
	n := 1
	if there {
		n = was.Number + 1
	}
	return api.Version{Number: n, Live: w.live, Value: w.value}, true
}

// all are the keys of a type of which there may be something for the transaction, in order.
func (x *plainTxn) all(typ string) []api.Key {
	l := x.store.keys()
	for _, w := range x.written {
		l = append(l, w.key)
	}
	return slices.DeleteFunc(name.Sort(l), func(k api.Key) bool { return k.Type != typ })
}

func (x *plainTxn) markKey(k api.Key) { x.marked = marks.Key(x.marked, k) }

func (x *plainTxn) markRange(typ string, p []api.Term) {
	normal, _ := pred.Norm(p)
	x.marked = marks.Range(x.marked, typ, normal)
}

func (x *plainTxn) read(k api.Key) (api.Version, api.Errno) {
	if !name.Key(k) {
		return api.Version{}, api.ErrName
	}
	x.markKey(k)
	if v, there := x.now(k); there {
		return v, api.OK
	}
	return api.Version{}, api.ErrNone
}

func (x *plainTxn) scan(typ string, p []api.Term) ([]api.Found, api.Errno) {
	if e := pred.May(p); e != api.OK {
		return nil, e
	}
	x.markRange(typ, p)
	var l []api.Found
	for _, k := range x.all(typ) {
		if v, _ := x.now(k); v.Live && pred.Match(p, v.Value) {
			l = append(l, api.Found{Key: k, Version: v})
		}
	}
	return l, api.OK
}

func (x *plainTxn) put(k api.Key, v []api.Field) api.Errno {
	if !name.Key(k) {
		return api.ErrName
	}
	if !value.May(v) {
		return api.ErrField
	}
	x.written = append(x.written, written{key: k, live: true, value: v})
	return api.OK
}

func (x *plainTxn) remove(k api.Key) api.Errno {
	if !name.Key(k) {
		return api.ErrName
	}
	x.markKey(k)
	if v, _ := x.now(k); !v.Live {
		return api.ErrNone
	}
	was, _ := x.store.visible(k, x.snap)
	x.written = append(x.written, written{key: k, forgotten: !was.Live})
	return api.OK
}

func (x *plainTxn) at(t uint64, k api.Key) (api.Version, api.Errno) {
	if !name.Key(k) {
		return api.Version{}, api.ErrName
	}
	if t < x.store.floor {
		return api.Version{}, api.ErrOld
	}
	if t > x.snap {
		x.markKey(k)
	}
	if v, there := x.store.visible(k, min(t, x.snap)); there {
		return v, api.OK
	}
	return api.Version{}, api.ErrNone
}

func (x *plainTxn) find(t uint64, typ string, p []api.Term) ([]api.Found, api.Errno) {
	if e := pred.May(p); e != api.OK {
		return nil, e
	}
	if t < x.store.floor {
		return nil, api.ErrOld
	}
	if t > x.snap {
		x.markRange(typ, p)
	}
	var l []api.Found
	for _, k := range x.store.keys() {
		v, _ := x.store.visible(k, min(t, x.snap))
		if k.Type == typ && v.Live && pred.Match(p, v.Value) {
			l = append(l, api.Found{Key: k, Version: v})
		}
	}
	return l, api.OK
}

// between are the versions with stamps above since, up to the snapshot, of the keys that are taken: by stamp, then by key.
func (x *plainTxn) between(since uint64, takes func(api.Key) bool) []api.Found {
	var l []api.Found
	for _, k := range x.store.keys() {
		for _, v := range x.store.of(k) {
			if takes(k) && v.Stamp > since && v.Stamp <= x.snap {
				l = append(l, api.Found{Key: k, Version: v})
			}
		}
	}
	slices.SortStableFunc(l, func(a, b api.Found) int {
		if a.Version.Stamp < b.Version.Stamp {
			return -1
		}
		if a.Version.Stamp > b.Version.Stamp {
			return 1
		}
		return 0
	})
	return l
}

func (x *plainTxn) history(k api.Key, since uint64) ([]api.Found, api.Errno) {
	if !name.Key(k) {
		return nil, api.ErrName
	}
	if since < x.store.floor {
		return nil, api.ErrOld
	}
	x.markKey(k)
	return x.between(since, func(o api.Key) bool { return o == k }), api.OK
}

func (x *plainTxn) since(typ string, since uint64) ([]api.Found, api.Errno) {
	if since < x.store.floor {
		return nil, api.ErrOld
	}
	x.markRange(typ, nil)
	return x.between(since, func(o api.Key) bool { return o.Type == typ }), api.OK
}

func (x *plainTxn) number(k api.Key, n int) (api.Version, api.Errno) {
	if !name.Key(k) {
		return api.Version{}, api.ErrName
	}
	if n < 1 {
		return api.Version{}, api.ErrArg
	}
	l := x.store.of(k)
	for _, v := range l {
		if v.Number == n && v.Stamp <= x.snap {
			return v, api.OK
		}
	}
	if len(l) > 0 && l[0].Number > n {
		return api.Version{}, api.ErrOld
	}
	x.markKey(k)
	return api.Version{}, api.ErrNone
}

func (x *plainTxn) changes() []api.Change {
	var l []api.Change
	var keys []api.Key
	for _, w := range x.written {
		keys = append(keys, w.key)
	}
	for _, k := range name.Sort(keys) {
		if w, wrote := x.wrote(k); wrote {
			was, _ := x.store.visible(k, x.snap)
			l = append(l, api.Change{Key: k, WasLive: was.Live, Was: was.Value, IsLive: w.live, Is: w.value})
		}
	}
	return l
}

// clashes says whether the transaction may not be committed, and whether it points at a done one.
func (x *plainTxn) clashes() (clash, out bool) {
	in, outs := false, false
	for _, c := range x.changes() {
		for _, v := range x.store.of(c.Key) {
			clash = clash || v.Stamp > x.snap
		}
	}
	for _, d := range x.store.done {
		if d.Stamp > x.snap {
			at := marks.Hits(x.marked, d.Changes)
			out = out || at
			outs = outs || at && d.Out
			in = in || marks.Hits(d.Marks, x.changes())
		}
	}
	return clash || x.snap < x.store.summary || outs || in && out, out
}

func (x *plainTxn) commit() (uint64, api.Errno) {
	p, changes := x.store, x.changes()
	clash, out := x.clashes()
	x.ended = true
	if clash {
		return 0, api.ErrClash
	}
	if len(changes) > 0 && p.count()+len(changes) > p.config.Versions {
		return 0, api.ErrFull
	}
	if len(changes) > 0 && p.last == api.MaxStamp {
		return 0, api.ErrSpent
	}
	stamp := uint64(0)
	if len(changes) > 0 {
		p.last++
		stamp = p.last
	}
	for _, c := range changes {
		p.put(c.Key, stamp, p.tick, c.IsLive, c.Is)
	}
	p.track(api.Done{Snap: x.snap, Stamp: p.last, Out: out, Marks: x.marked, Changes: changes})
	return stamp, api.OK
}

// track keeps a done one that has read or written, as long as there is room; of those that are kept, all are let go that none that is open runs beside. One that has neither read nor written does none of it.
func (p *plain) track(d api.Done) {
	if len(d.Marks.Keys) == 0 && len(d.Marks.Ranges) == 0 && len(d.Changes) == 0 {
		return
	}
	p.done = append(p.done, d)
	if len(p.done) > p.config.Tracked {
		p.summary = max(p.summary, p.done[0].Stamp)
		p.done = p.done[1:]
	}
	least := p.least()
	p.done = slices.DeleteFunc(slices.Clone(p.done), func(d api.Done) bool { return d.Stamp <= least })
}
