package store

import (
	"folio/api"
	"folio/past"
)

// window is how far down, and up, the transaction may look.
func (x *Txn) window() past.Window {
	return past.Window{Floor: x.store.Floor(), Snap: x.snap}
}

// At tells what a key was at a stamp.
func (x *Txn) At(t uint64, k api.Key) (api.Version, api.Errno) {
	if e := x.refused(k); e != api.OK {
		return api.Version{}, e
	}
	w := x.window()
	v, e := past.At(x.store.parts.dir, w, t, k)
	// What was at the snapshot or below stays, so that nobody who commits can hit a read of it.
	if e != api.ErrOld && past.Open(w, t) {
		x.mark(k)
	}
	return v, e
}

// Find tells which resources of a type a predicate took at a stamp.
func (x *Txn) Find(t uint64, typ string, p []api.Term) ([]api.Found, api.Errno) {
	if e := x.unfit(p); e != api.OK {
		return nil, e
	}
	w := x.window()
	found, e := past.Find(x.store.parts.dir, w, t, typ, p)
	if e != api.ErrOld && past.Open(w, t) {
		x.markRange(typ, p)
	}
	return found, e
}

// History tells a key's versions since a stamp.
func (x *Txn) History(k api.Key, since uint64) ([]api.Version, api.Errno) {
	if e := x.refused(k); e != api.OK {
		return nil, e
	}
	list, e := past.History(x.store.parts.dir, x.window(), k, since)
	if e != api.ErrOld {
		x.mark(k)
	}
	return list, e
}

// Since tells the versions of a type since a stamp.
func (x *Txn) Since(typ string, since uint64) ([]api.Found, api.Errno) {
	if x.Ended() {
		return nil, api.ErrOver
	}
	found, e := past.Since(x.store.parts.dir, x.window(), typ, since)
	if e != api.ErrOld {
		x.markRange(typ, nil)
	}
	return found, e
}

// Number tells a key's version with a number.
func (x *Txn) Number(k api.Key, n int) (api.Version, api.Errno) {
	if e := x.refused(k); e != api.OK {
		return api.Version{}, e
	}
	v, e := past.Number(x.store.parts.dir, x.window(), k, n)
	// A version that is there stays what it is; that there is none is what a commit may change.
	if e == api.ErrNone {
		x.mark(k)
	}
	return v, e
}
