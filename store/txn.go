package store

import (
	"folio/api"
	"folio/marks"
	"folio/name"
	"folio/pred"
	"folio/writes"
)

// Txn is a transaction.
type Txn struct {
	snap    uint64
	id      int    // its snapshot's
	store   *Store // nil from its end on, when all else but the snapshot is let go too
	written *writes.Set
	marked  api.Marks
}

// Snap is the snapshot.
func (x *Txn) Snap() uint64 {
	if x == nil {
		return 0
	}
	return x.snap
}

// Ended says whether the transaction has ended.
func (x *Txn) Ended() bool { return x == nil || x.store == nil }

// refused is why the transaction tells nothing of a key: OK, if it does.
func (x *Txn) refused(k api.Key) api.Errno {
	if x.Ended() {
		return api.ErrOver
	}
	if !name.Key(k) {
		return api.ErrName
	}
	return api.OK
}

// unfit is why the transaction tells nothing of a predicate: OK, if it does.
func (x *Txn) unfit(p []api.Term) api.Errno {
	if x.Ended() {
		return api.ErrOver
	}
	return pred.May(p)
}

// mark marks a key.
func (x *Txn) mark(k api.Key) { x.marked = marks.Key(x.marked, k) }

// markRange marks a range, by the one form of its predicate, so that the same range isn't marked twice.
func (x *Txn) markRange(typ string, p []api.Term) {
	normal, _ := pred.Norm(p)
	x.marked = marks.Range(x.marked, typ, normal)
}

// before is what a key is at the snapshot.
func (x *Txn) before(k api.Key) (api.Version, bool) { return x.store.parts.dir.At(k, x.snap) }

// now is what a key is for the transaction.
func (x *Txn) now(k api.Key) (api.Version, bool) {
	was, there := x.before(k)
	v, live, written := x.written.Get(k)
	if !written {
		return was, there
	}
	return api.Version{Number: was.Number + 1, Live: live, Value: v}, true
}

// Read tells what a key is.
func (x *Txn) Read(k api.Key) (api.Version, api.Errno) {
	if e := x.refused(k); e != api.OK {
		return api.Version{}, e
	}
	x.mark(k)
	v, there := x.now(k)
	if !there {
		return api.Version{}, api.ErrNone
	}
	return v, api.OK
}

// Scan tells which resources of a type a predicate takes.
func (x *Txn) Scan(typ string, p []api.Term) ([]api.Found, api.Errno) {
	if e := x.unfit(p); e != api.OK {
		return nil, e
	}
	x.markRange(typ, p)
	found := x.written.Over(x.store.parts.dir.Scan(typ, x.snap, p), typ, p)
	return each(found, x.numbered), api.OK
}

// numbered is what was found as it is for the transaction: what is written has no number where it comes from.
func (x *Txn) numbered(f api.Found) api.Found {
	v, _ := x.now(f.Key)
	return api.Found{Key: f.Key, Version: v}
}

// Put writes a value.
func (x *Txn) Put(k api.Key, v []api.Field) api.Errno {
	if x.Ended() {
		return api.ErrOver
	}
	return x.written.Put(k, v)
}

// Delete writes that a key isn't live.
func (x *Txn) Delete(k api.Key) api.Errno {
	if e := x.refused(k); e != api.OK {
		return e
	}
	x.mark(k)
	if v, _ := x.now(k); !v.Live {
		return api.ErrNone
	}
	if was, _ := x.before(k); !was.Live {
		// There is nothing to delete for the others: a version that isn't live stands behind a live one alone.
		x.written.Forget(k)
		return api.OK
	}
	return x.written.Delete(k)
}

// Drop forgets all writes.
func (x *Txn) Drop() {
	if !x.Ended() {
		x.written = writes.New()
	}
}

// Marks is what was read.
func (x *Txn) Marks() api.Marks {
	if x.Ended() {
		return api.Marks{}
	}
	return marks.Union(x.marked, api.Marks{})
}

// Changes is what a commit would change.
func (x *Txn) Changes() []api.Change {
	if x.Ended() {
		return nil
	}
	return each(x.written.Keys(), x.change)
}

// change is what a commit would change of a key that is written.
func (x *Txn) change(k api.Key) api.Change {
	was, _ := x.before(k)
	v, live, _ := x.written.Get(k)
	return api.Change{Key: k, WasLive: was.Live, Was: was.Value, IsLive: live, Is: v}
}

// each is a new list of what is made of each of a list.
func each[T, U any](list []T, made func(T) U) []U {
	var all []U
	for _, one := range list {
		all = append(all, made(one))
	}
	return all
}
