package bundle

import (
	"folio/api"
	"folio/store"
)

// The groups of steps, in the order in which they are done.
const (
	dropping = iota
	asking
	making
	updating
	patching
	telling
	groups // how many there are
)

// deed does a step of the entry at a place in a transaction; told are the entry's reply, and Success or the status by which the request fails.
type deed func(b *Run, at int, x *store.Txn) (api.Reply, int)

// row says what a kind of entry does when a group's turn has come.
type row struct {
	kind  int
	group int
	does  deed
}

// table is what each kind of entry does.
func table() []row {
	return []row{
		{api.EnDelete, dropping, deletes},
		{api.EnEnsure, asking, asks},
		{api.EnCreate, making, creates},
		{api.EnEnsure, making, ensures},
		{api.EnUpdate, updating, updates},
		{api.EnPatch, patching, patches},
		{api.EnRead, telling, reads},
		{api.EnNumber, telling, numbers},
		{api.EnSearch, telling, searches},
		{api.EnHistory, telling, histories},
		{api.EnSince, telling, sinces},
		{api.EnAt, telling, ats},
		{api.EnFind, telling, finds},
	}
}

// step is a deed for the entry at a place.
type step struct {
	at   int
	does deed
}

// steps are those of a fit request's entries, group by group.
func steps(entries []api.Entry) []step {
	var list []step
	rows := table()
	for group := range groups {
		for at, e := range entries {
			for _, r := range rows {
				if r.group == group && r.kind == e.Kind {
					list = append(list, step{at, r.does})
				}
			}
		}
	}
	return list
}
