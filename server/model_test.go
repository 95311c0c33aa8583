package server

import (
	"cmp"
	"maps"
	"slices"
	"strings"

	"folio/api"
	"folio/bundle"
	"folio/name"
	"folio/op"
	"folio/patch"
	"folio/pred"
)

// world is what the requests of a run are held against, done one after the other: of each key all versions, in the order of their stamps. Nothing goes.
type world map[api.Key][]api.Version

// deed is a fit request that is done in a world by itself. What it has written has the stamp 0.
type deed struct {
	world   world
	entries []api.Entry
	written map[api.Key]api.Version
	founds  map[int]api.Key // the ensures that have found one
	replies []api.Reply
}

// do does a request with a stamp and a tick; false, if the stamp isn't above those of what it writes.
func (w world) do(r api.Request, stamp uint64, tick int64) (api.Answer, bool) {
	if bundle.Fit(r) != api.OK {
		return api.Answer{Status: api.Malformed}, true
	}
	d := &deed{world: w, entries: r.Entries, written: map[api.Key]api.Version{}, founds: map[int]api.Key{}, replies: make([]api.Reply, len(r.Entries))}
	for _, step := range d.steps() {
		if status := step.does(step.at); status != 0 {
			return api.Answer{Status: status, At: step.at}, true
		}
	}
	a := api.Answer{Status: api.Success, Replies: d.replies}
	if len(d.written) == 0 {
		return a, true
	}
	a.Stamp, a.Tick = stamp, tick
	for _, reply := range a.Replies {
		for i := range reply.List {
			if v := &reply.List[i].Version; v.Stamp == 0 {
				v.Stamp, v.Tick = stamp, tick
			}
		}
	}
	return a, d.put(stamp, tick)
}

// put puts what is written into the world, unless the stamp is too low for one of it.
func (d *deed) put(stamp uint64, tick int64) bool {
	for k := range d.written {
		if l := d.world[k]; stamp == 0 || len(l) > 0 && l[len(l)-1].Stamp >= stamp {
			return false
		}
	}
	for k, v := range d.written {
		v.Stamp, v.Tick = stamp, tick
		d.world[k] = append(d.world[k], v)
	}
	return true
}

// deedStep is a step of the entry at a place; it answers a status by which the request fails, or 0.
type deedStep struct {
	at   int
	does func(at int) int
}

// steps are all of them, in their order.
func (d *deed) steps() []deedStep {
	var l []deedStep
	add := func(does func(at int) int, kinds ...int) {
		for at, e := range d.entries {
			if slices.Contains(kinds, e.Kind) {
				l = append(l, deedStep{at, does})
			}
		}
	}
	add(d.remove, api.EnDelete)
	add(d.ask, api.EnEnsure)
	add(d.write, api.EnCreate, api.EnEnsure)
	add(d.write, api.EnUpdate)
	add(d.edit, api.EnPatch)
	add(d.tell, api.EnRead, api.EnNumber, api.EnSearch, api.EnHistory, api.EnSince, api.EnAt, api.EnFind)
	return l
}

// is what a key is, own writes too.
func (d *deed) is(k api.Key) (api.Version, bool) {
	if v, mine := d.written[k]; mine {
		return v, true
	}
	return d.world.at(k, api.MaxStamp)
}

// at is what is visible at a stamp.
func (w world) at(k api.Key, t uint64) (api.Version, bool) {
	l := slices.DeleteFunc(slices.Clone(w[k]), func(v api.Version) bool { return v.Stamp > t })
	if len(l) == 0 {
		return api.Version{}, false
	}
	return l[len(l)-1], true
}

// lay writes a key, and makes the reply of it.
func (d *deed) lay(at, kind int, live bool, v []api.Field) int {
	k := d.entries[at].Key
	was, _ := d.world.at(k, api.MaxStamp)
	d.written[k] = api.Version{Number: was.Number + 1, Live: live, Value: v}
	d.replies[at] = api.Reply{Kind: kind, List: []api.Found{{Key: k, Version: d.written[k]}}}
	return 0
}

// wrong is why an entry that is for a resource that is there, with a number, can't be done: 0 if it can.
func wrong(e api.Entry, v api.Version) int {
	if !v.Live {
		return api.Absent
	}
	if e.If != 0 && e.If != v.Number {
		return api.Mismatch
	}
	return 0
}

func (d *deed) remove(at int) int {
	v, _ := d.is(d.entries[at].Key)
	if status := wrong(d.entries[at], v); status != 0 {
		return status
	}
	return d.lay(at, api.RepDropped, false, nil)
}

func (d *deed) ask(at int) int {
	e := d.entries[at]
	found := d.scan(e.Key.Type, e.Pred, d.is)
	for i, ahead := range d.entries[:at] {
		_, none := d.founds[i]
		if ahead.Kind == api.EnEnsure && !none && ahead.Key.Type == e.Key.Type && pred.Match(e.Pred, ahead.Value) {
			found = append(found, api.Found{Key: ahead.Key})
		}
	}
	if len(found) > 1 {
		return api.Several
	}
	if len(found) == 1 {
		d.founds[at] = found[0].Key
	}
	return 0
}

// write does a create, an ensure that makes or has found one, or an update.
func (d *deed) write(at int) int {
	e := d.entries[at]
	if k, found := d.founds[at]; found {
		v, _ := d.is(k)
		d.replies[at] = api.Reply{Kind: api.RepFound, List: []api.Found{{Key: k, Version: v}}}
		return 0
	}
	v, _ := d.is(e.Key)
	if e.Kind != api.EnUpdate && v.Live {
		return api.Exists
	}
	if e.Kind == api.EnUpdate && e.If != 0 && wrong(e, v) != 0 {
		return wrong(e, v)
	}
	var made []api.Field
	for _, f := range e.Value {
		texts, ok := d.resolve(f.Texts)
		if !ok {
			return api.Unfit
		}
		made = append(made, api.Field{Name: f.Name, Texts: texts})
	}
	kind := api.RepMade
	if v.Live {
		kind = api.RepPut
	}
	return d.lay(at, kind, true, made)
}

func (d *deed) edit(at int) int {
	e := d.entries[at]
	v, _ := d.is(e.Key)
	if status := wrong(e, v); status != 0 {
		return status
	}
	edits := slices.Clone(e.Edits)
	for i := range edits {
		texts, ok := d.resolve([]string{edits[i].Text})
		if !ok {
			return api.Unfit
		}
		edits[i].Text = texts[0]
	}
	made, no := patch.Apply(v.Value, edits)
	if no != api.OK {
		return api.Unfit
	}
	return d.lay(at, api.RepPut, true, made)
}

// resolve puts references in the place of temporary ones, if it can.
func (d *deed) resolve(texts []string) ([]string, bool) {
	texts = slices.Clone(texts)
	for i, text := range texts {
		temp, found := strings.CutPrefix(text, "*@")
		if !found || !name.Temp(temp) {
			continue
		}
		at := slices.IndexFunc(d.entries, func(e api.Entry) bool { return e.Temp == temp })
		if at < 0 {
			return nil, false
		}
		k, found := d.founds[at]
		if !found {
			k = d.entries[at].Key
		}
		texts[i] = "*" + k.Type + "/" + k.ID
	}
	return texts, true
}

// scan are the live ones of a type that a predicate takes, as they are told of each key.
func (d *deed) scan(typ string, p []api.Term, is func(k api.Key) (api.Version, bool)) []api.Found {
	var l []api.Found
	for _, k := range name.Sort(slices.AppendSeq(slices.Collect(maps.Keys(d.world)), maps.Keys(d.written))) {
		if v, _ := is(k); k.Type == typ && v.Live && pred.Match(p, v.Value) {
			l = append(l, api.Found{Key: k, Version: v})
		}
	}
	return l
}

// log are the versions with stamps above since of all keys that are asked for, by stamp, then by key.
func (w world) log(since uint64, asked func(k api.Key) bool) []api.Found {
	var l []api.Found
	for k, versions := range w {
		for _, v := range versions {
			if asked(k) && v.Stamp > since {
				l = append(l, api.Found{Key: k, Version: v})
			}
		}
	}
	slices.SortFunc(l, func(a, b api.Found) int {
		return cmp.Or(cmp.Compare(a.Version.Stamp, b.Version.Stamp), name.Compare(a.Key, b.Key))
	})
	return l
}

// tell does an entry that only reads.
func (d *deed) tell(at int) int {
	e := d.entries[at]
	reply := api.Reply{Kind: api.RepList}
	one := func(v api.Version, there bool) {
		reply = api.Reply{Kind: api.RepMissing}
		if there {
			reply = api.Reply{Kind: api.RepDeleted, List: []api.Found{{Key: e.Key, Version: v}}}
		}
		if v.Live {
			reply.Kind = api.RepFound
		}
	}
	switch e.Kind {
	case api.EnRead:
		one(d.is(e.Key))
	case api.EnAt:
		one(d.world.at(e.Key, e.Stamp))
	case api.EnNumber:
		i := slices.IndexFunc(d.world[e.Key], func(v api.Version) bool { return v.Number == e.Number })
		if one(api.Version{}, false); i >= 0 {
			one(d.world[e.Key][i], true)
		}
	case api.EnSearch:
		reply.List = d.scan(e.Key.Type, e.Pred, d.is)
	case api.EnFind:
		reply.List = d.scan(e.Key.Type, e.Pred, func(k api.Key) (api.Version, bool) { return d.world.at(k, e.Stamp) })
	case api.EnSince:
		reply.List = d.world.log(e.Stamp, func(k api.Key) bool { return k.Type == e.Key.Type })
	case api.EnHistory:
		reply.List = d.world.log(e.Stamp, func(k api.Key) bool { return k == e.Key })
	}
	d.replies[at] = reply
	return 0
}

// writesOf is whether an entry with this reply has written.
func writesOf(e api.Entry, r api.Reply) bool { return op.Writes(e) && r.Kind != api.RepFound }
