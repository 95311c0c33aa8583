package store

import (
	"slices"

	"folio/api"
)

// Commit commits the transaction, or gives it up.
func (x *Txn) Commit() (uint64, api.Errno) {
	if x.Ended() {
		return 0, api.ErrOver
	}
	done, e := x.checked()
	stamp := uint64(0)
	if e == api.OK {
		stamp, e = x.store.write(done.Changes)
	}
	s := x.store
	x.end()
	if e != api.OK {
		return 0, e
	}
	s.track(done)
	return stamp, api.OK
}

// checked is the transaction as the tracker is to keep it, but for its stamp; ErrClash, if it clashes with one that is done.
func (x *Txn) checked() (api.Done, api.Errno) {
	if slices.ContainsFunc(x.written.Keys(), x.overtaken) {
		return api.Done{}, api.ErrClash
	}
	d := api.Done{Snap: x.snap, Marks: x.marked, Changes: x.Changes()}
	out, e := x.store.parts.tracker.Check(d.Snap, d.Marks, d.Changes)
	d.Out = out
	return d, e
}

// overtaken says whether another has committed a version of a key that the transaction doesn't see.
func (x *Txn) overtaken(k api.Key) bool {
	last, _ := x.store.parts.dir.Last(k)
	return last.Stamp > x.snap
}

// write puts all changes into the directory, at one new stamp, or none of them; without changes no stamp is taken.
func (s *Store) write(changes []api.Change) (uint64, api.Errno) {
	if len(changes) == 0 {
		return 0, api.OK
	}
	if s.Count()+len(changes) > s.most {
		return 0, api.ErrFull
	}
	stamp, e := s.parts.stamps.Next()
	if e != api.OK {
		return 0, e
	}
	tick := s.parts.clock.Now()
	for _, c := range changes {
		// None is refused: the stamp is above all that are there, and only what is live is deleted.
		s.parts.dir.Put(c.Key, stamp, tick, c.IsLive, c.Is)
	}
	return stamp, api.OK
}

// track hands a done one to the tracker, which then lets go all that no open transaction runs beside.
func (s *Store) track(d api.Done) {
	// One that has neither read nor written clashes with none, and leaves the tracker as it is.
	if len(d.Marks.Keys)+len(d.Marks.Ranges)+len(d.Changes) == 0 {
		return
	}
	p := s.parts
	d.Stamp = p.stamps.Last()
	p.tracker.Add(d)
	p.tracker.Drop(p.least())
}

// Give gives the transaction up.
func (x *Txn) Give() bool {
	if x.Ended() {
		return false
	}
	x.end()
	return true
}

// end closes the snapshot, and lets go all that only an open transaction needs.
func (x *Txn) end() {
	x.store.parts.snaps.Close(x.id)
	*x = Txn{snap: x.snap}
}
