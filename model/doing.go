package model

import (
	"slices"

	"folio/api"
)

// doing is a request that is being done: what it writes is its own till all its steps are done.
type doing struct {
	model   *Model
	stamp   uint64
	tick    int64
	tasks   []task
	written map[api.Key]api.Version
	replies []api.Reply
}

// task is an entry; of an ensure also what came of its asking.
type task struct {
	entry api.Entry
	asked bool
	found bool    // whether it has found one, so that it makes nothing
	means api.Key // what its temporary name stands for
}

// begin is a request of which no step is done.
func (m *Model) begin(r api.Request, stamp uint64, tick int64) *doing {
	d := &doing{model: m, stamp: stamp, tick: tick, written: map[api.Key]api.Version{}, replies: make([]api.Reply, len(r.Entries))}
	for _, e := range r.Entries {
		d.tasks = append(d.tasks, task{entry: e, means: e.Key})
	}
	return d
}

// step does the next step of the entry at a place; told is Success, or the status by which the request fails.
func (d *doing) step(at int) int {
	t := d.tasks[at]
	switch t.entry.Kind {
	case api.EnDelete:
		return d.remove(at)
	case api.EnEnsure:
		if !t.asked {
			return d.ask(at)
		}
		return d.ensure(at)
	case api.EnCreate:
		return d.create(at)
	case api.EnUpdate:
		return d.update(at)
	case api.EnPatch:
		return d.edit(at)
	}
	return d.tell(at)
}

// is what a key is for the request.
func (d *doing) is(k api.Key) (api.Version, bool) {
	if v, mine := d.written[k]; mine {
		return v, true
	}
	return d.model.at(api.MaxStamp)(k)
}

// search are the live ones of a type that a predicate takes, for the request.
func (d *doing) search(typ string, p []api.Term) []api.Found {
	keys := slices.Clone(d.model.keys[typ])
	for k := range d.written {
		if k.Type == typ {
			keys = with(keys, k)
		}
	}
	return live(keys, p, d.is)
}

// reply lays down an entry's reply.
func (d *doing) reply(at, kind int, l ...api.Found) int {
	d.replies[at] = api.Reply{Kind: kind, List: l}
	return api.Success
}

// one tells what a key is in a view.
func (d *doing) one(at int, k api.Key, is view) int {
	v, there := is(k)
	switch {
	case !there:
		return d.reply(at, api.RepMissing)
	case !v.Live:
		return d.reply(at, api.RepDeleted, found(k, v))
	}
	return d.reply(at, api.RepFound, found(k, v))
}

// tell is what an entry does that only reads. What is told of the past hasn't what the request itself writes.
func (d *doing) tell(at int) int {
	e, m := d.tasks[at].entry, d.model
	switch e.Kind {
	case api.EnRead:
		return d.one(at, e.Key, d.is)
	case api.EnNumber:
		return d.one(at, e.Key, m.numbered(e.Number))
	case api.EnAt:
		return d.one(at, e.Key, m.at(e.Stamp))
	case api.EnSearch:
		return d.reply(at, api.RepList, d.search(e.Key.Type, e.Pred)...)
	case api.EnFind:
		return d.reply(at, api.RepList, live(m.keys[e.Key.Type], e.Pred, m.at(e.Stamp))...)
	case api.EnHistory:
		return d.reply(at, api.RepList, m.log([]api.Key{e.Key}, e.Stamp)...)
	}
	return d.reply(at, api.RepList, m.log(m.keys[e.Key.Type], e.Stamp)...)
}
