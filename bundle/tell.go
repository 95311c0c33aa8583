package bundle

import (
	"folio/api"
	"folio/store"
)

// single is what a call that tells one version makes of its entry.
func single(k api.Key, v api.Version, e api.Errno) (api.Reply, int) {
	switch {
	case e == api.ErrOld:
		return api.Reply{}, api.Past
	case e != api.OK:
		return api.Reply{Kind: api.RepMissing}, api.Success
	}
	kind := api.RepDeleted
	if v.Live {
		kind = api.RepFound
	}
	return api.Reply{Kind: kind, List: []api.Found{{Key: k, Version: v}}}, api.Success
}

// several is what a call that tells a list makes of its entry.
func several(l []api.Found, e api.Errno) (api.Reply, int) {
	if e == api.ErrOld {
		return api.Reply{}, api.Past
	}
	return api.Reply{Kind: api.RepList, List: l}, api.Success
}

// reads is what a read does.
func reads(b *Run, at int, x *store.Txn) (api.Reply, int) {
	k := b.tasks[at].entry.Key
	v, e := x.Read(k)
	return single(k, v, e)
}

// numbers is what a number does.
func numbers(b *Run, at int, x *store.Txn) (api.Reply, int) {
	entry := b.tasks[at].entry
	v, e := x.Number(entry.Key, entry.Number)
	return single(entry.Key, v, e)
}

// ats is what an at does.
func ats(b *Run, at int, x *store.Txn) (api.Reply, int) {
	entry := b.tasks[at].entry
	v, e := x.At(entry.Stamp, entry.Key)
	return single(entry.Key, v, e)
}

// searches is what a search does.
func searches(b *Run, at int, x *store.Txn) (api.Reply, int) {
	entry := b.tasks[at].entry
	return several(x.Scan(entry.Key.Type, entry.Pred))
}

// finds is what a find does.
func finds(b *Run, at int, x *store.Txn) (api.Reply, int) {
	entry := b.tasks[at].entry
	return several(x.Find(entry.Stamp, entry.Key.Type, entry.Pred))
}

// sinces is what a since does.
func sinces(b *Run, at int, x *store.Txn) (api.Reply, int) {
	entry := b.tasks[at].entry
	return several(x.Since(entry.Key.Type, entry.Stamp))
}

// histories is what a history does.
func histories(b *Run, at int, x *store.Txn) (api.Reply, int) {
	entry := b.tasks[at].entry
	list, e := x.History(entry.Key, entry.Stamp)
	var found []api.Found
	for _, v := range list {
		found = append(found, api.Found{Key: entry.Key, Version: v})
	}
	return several(found, e)
}
