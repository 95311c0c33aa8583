package bundle

import (
	"slices"

	"folio/api"
	"folio/patch"
	"folio/pred"
	"folio/refs"
	"folio/store"
)

// deletes is what a delete does.
func deletes(b *Run, at int, x *store.Txn) (api.Reply, int) {
	e := b.tasks[at].entry
	now, _ := x.Read(e.Key)
	if status := wanting(e, now); status != api.Success {
		return api.Reply{}, status
	}
	x.Delete(e.Key)
	return standing(api.RepDropped, e.Key, x)
}

// wanting is why an entry can't be done that needs its key to be there; of a key that is nothing now is zero, and so not live.
func wanting(e api.Entry, now api.Version) int {
	switch {
	case !now.Live:
		return api.Absent
	case e.If != 0 && e.If != now.Number:
		return api.Mismatch
	}
	return api.Success
}

// asks is what an ensure does at first: it looks for the one that it is to be.
func asks(b *Run, at int, x *store.Txn) (api.Reply, int) {
	e := b.tasks[at].entry
	found := b.promised(at)
	// It isn't refused: the predicate of a fit request may be.
	list, _ := x.Scan(e.Key.Type, e.Pred)
	for _, f := range list {
		found = append(found, f.Key)
	}
	if len(found) > 1 {
		return api.Reply{}, api.Several
	}
	if len(found) == 1 {
		b.tasks[at].found, b.tasks[at].means = true, found[0]
	}
	return api.Reply{}, api.Success
}

// promised are the keys of the ensures ahead of the one at a place that are to be made and that it takes: no scan tells them yet.
func (b *Run) promised(at int) []api.Key {
	var keys []api.Key
	e := b.tasks[at].entry
	for _, t := range b.tasks[:at] {
		made := t.entry.Kind == api.EnEnsure && !t.found
		if made && t.entry.Key.Type == e.Key.Type && pred.Match(e.Pred, t.entry.Value) {
			keys = append(keys, t.entry.Key)
		}
	}
	return keys
}

// creates is what a create does, and an ensure that has found none.
func creates(b *Run, at int, x *store.Txn) (api.Reply, int) {
	e := b.tasks[at].entry
	if now, _ := x.Read(e.Key); now.Live {
		return api.Reply{}, api.Exists
	}
	return b.put(api.RepMade, e, x)
}

// ensures is what an ensure does when all have asked.
func ensures(b *Run, at int, x *store.Txn) (api.Reply, int) {
	if t := b.tasks[at]; t.found {
		return standing(api.RepFound, t.means, x)
	}
	return creates(b, at, x)
}

// updates is what an update does.
func updates(b *Run, at int, x *store.Txn) (api.Reply, int) {
	e := b.tasks[at].entry
	now, _ := x.Read(e.Key)
	if e.If != 0 {
		if status := wanting(e, now); status != api.Success {
			return api.Reply{}, status
		}
	}
	kind := api.RepMade
	if now.Live {
		kind = api.RepPut
	}
	return b.put(kind, e, x)
}

// patches is what a patch does.
func patches(b *Run, at int, x *store.Txn) (api.Reply, int) {
	e := b.tasks[at].entry
	now, _ := x.Read(e.Key)
	if status := wanting(e, now); status != api.Success {
		return api.Reply{}, status
	}
	edits, ok := b.resolved(e.Edits)
	if !ok {
		return api.Reply{}, api.Unfit
	}
	v, no := patch.Apply(now.Value, edits)
	if no != api.OK {
		return api.Reply{}, api.Unfit
	}
	x.Put(e.Key, v)
	return standing(api.RepPut, e.Key, x)
}

// put writes an entry's value, resolved.
func (b *Run) put(kind int, e api.Entry, x *store.Txn) (api.Reply, int) {
	v, no := refs.Resolve(e.Value, b.binds())
	if no != api.OK {
		return api.Reply{}, api.Unfit
	}
	// It isn't refused: a normal value stays normal, since no reference is longer than a text may be.
	x.Put(e.Key, v)
	return standing(kind, e.Key, x)
}

// standing is the reply that tells what a key is for the transaction by now.
func standing(kind int, k api.Key, x *store.Txn) (api.Reply, int) {
	v, _ := x.Read(k)
	return api.Reply{Kind: kind, List: []api.Found{{Key: k, Version: v}}}, api.Success
}

// binds say what the temporary names stand for, from when all ensures have asked.
func (b *Run) binds() []api.Bind {
	var list []api.Bind
	for _, t := range b.tasks {
		if t.entry.Temp != "" {
			list = append(list, api.Bind{Name: t.entry.Temp, Key: t.means})
		}
	}
	return list
}

// resolved are edits with resolved texts, if all can be.
func (b *Run) resolved(edits []api.Edit) ([]api.Edit, bool) {
	own, binds := slices.Clone(edits), b.binds()
	for i, e := range own {
		v, no := refs.Resolve([]api.Field{{Name: e.Field, Texts: []string{e.Text}}}, binds)
		if no != api.OK {
			return nil, false
		}
		own[i].Text = v[0].Texts[0]
	}
	return own, true
}
