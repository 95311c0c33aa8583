package script

import (
	"cmp"
	"maps"
	"slices"

	"folio/api"
	"folio/name"
	"folio/patch"
	"folio/pred"
	"folio/refs"
)

// world is what requests are done in, one after the other: of each key all versions, by their stamps. Nothing goes.
type world map[api.Key][]api.Version

// outcome is what a request comes to: its status' word, the entry at which it failed, its replies' lines, and what it writes.
type outcome struct {
	status  string
	at      int
	replies []string
	written map[api.Key]api.Version
}

// doing is a request that is being done, with the stamp and the tick that what it writes will have.
type doing struct {
	world   world
	stamp   uint64
	tick    int64
	entries []api.Entry
	written map[api.Key]api.Version
	found   map[int]api.Key // what ensures have found
	replies []string
}

// does does a fit request; the world stays as it is.
func (w world) does(entries []api.Entry, stamp uint64, tick int64) outcome {
	d := &doing{w, stamp, tick, entries, map[api.Key]api.Version{}, map[int]api.Key{}, make([]string, len(entries))}
	for _, step := range []struct {
		does  func(at int, e api.Entry) string
		kinds []int
	}{
		{d.remove, []int{api.EnDelete}},
		{d.ask, []int{api.EnEnsure}},
		{d.create, []int{api.EnCreate, api.EnEnsure}},
		{d.update, []int{api.EnUpdate}},
		{d.edit, []int{api.EnPatch}},
		{d.look, []int{api.EnRead, api.EnNumber, api.EnSearch, api.EnHistory, api.EnSince, api.EnAt, api.EnFind}},
	} {
		for at, e := range entries {
			if !slices.Contains(step.kinds, e.Kind) {
				continue
			}
			if status := step.does(at, e); status != "" {
				return outcome{status: status, at: at}
			}
		}
	}
	return outcome{"success", 0, d.replies, d.written}
}

// put lays what a request has written over the world; false, and nothing is laid, if its stamp is too low for that.
func (w world) put(written map[api.Key]api.Version) bool {
	for k, v := range written {
		if l := w[k]; v.Stamp == 0 || len(l) > 0 && l[len(l)-1].Stamp >= v.Stamp {
			return false
		}
	}
	for k, v := range written {
		w[k] = append(w[k], v)
	}
	return true
}

// take is put, taken back.
func (w world) take(written map[api.Key]api.Version) {
	for k := range written {
		w[k] = w[k][:len(w[k])-1]
	}
}

// at is what is visible at a stamp.
func (w world) at(k api.Key, t uint64) (api.Version, bool) {
	for _, v := range slices.Backward(w[k]) {
		if v.Stamp <= t {
			return v, true
		}
	}
	return api.Version{}, false
}

// is what a key is now.
func (d *doing) is(k api.Key) (api.Version, bool) {
	if v, mine := d.written[k]; mine {
		return v, true
	}
	return d.world.at(k, api.MaxStamp)
}

// live are the live ones of a type that a predicate takes.
func (d *doing) live(typ string, p []api.Term, is func(k api.Key) (api.Version, bool)) []api.Found {
	var l []api.Found
	keys := slices.AppendSeq(slices.Collect(maps.Keys(d.world)), maps.Keys(d.written))
	for _, k := range name.Sort(keys) {
		if v, _ := is(k); k.Type == typ && v.Live && pred.Match(p, v.Value) {
			l = append(l, api.Found{Key: k, Version: v})
		}
	}
	return l
}

// log are the versions above a stamp of all keys that are asked for.
func (d *doing) log(since uint64, asks func(k api.Key) bool) []api.Found {
	var l []api.Found
	for k, versions := range d.world {
		for _, v := range versions {
			if asks(k) && v.Stamp > since {
				l = append(l, api.Found{Key: k, Version: v})
			}
		}
	}
	slices.SortFunc(l, func(a, b api.Found) int {
		return cmp.Or(cmp.Compare(a.Version.Stamp, b.Version.Stamp), name.Compare(a.Key, b.Key))
	})
	return l
}

func (d *doing) reply(at, kind int, l ...api.Found) string {
	d.replies[at] = speltReply(api.Reply{Kind: kind, List: l})
	return ""
}

// write is the last part of each entry that writes.
func (d *doing) write(at, kind int, live bool, v []api.Field) string {
	k := d.entries[at].Key
	was, _ := d.world.at(k, api.MaxStamp)
	d.written[k] = api.Version{Number: was.Number + 1, Stamp: d.stamp, Tick: d.tick, Live: live, Value: v}
	return d.reply(at, kind, api.Found{Key: k, Version: d.written[k]})
}

// wanted says why an entry that needs a resource that is there can't be done.
func wanted(e api.Entry, v api.Version) string {
	switch {
	case !v.Live:
		return "absent"
	case e.If != 0 && e.If != v.Number:
		return "mismatch"
	}
	return ""
}

// bound are the keys that temporary names stand for.
func (d *doing) bound() []api.Bind {
	var l []api.Bind
	for at, e := range d.entries {
		k, found := d.found[at]
		if !found {
			k = e.Key
		}
		if e.Temp != "" {
			l = append(l, api.Bind{Name: e.Temp, Key: k})
		}
	}
	return l
}

func (d *doing) remove(at int, e api.Entry) string {
	v, _ := d.is(e.Key)
	if status := wanted(e, v); status != "" {
		return status
	}
	return d.write(at, api.RepDropped, false, nil)
}

func (d *doing) ask(at int, e api.Entry) string {
	l := d.live(e.Key.Type, e.Pred, d.is)
	for i, ahead := range d.entries[:at] {
		_, found := d.found[i]
		if ahead.Kind == api.EnEnsure && !found && ahead.Key.Type == e.Key.Type && pred.Match(e.Pred, ahead.Value) {
			l = append(l, api.Found{Key: ahead.Key})
		}
	}
	if len(l) > 1 {
		return "several"
	}
	for _, f := range l {
		d.found[at] = f.Key
	}
	return ""
}

func (d *doing) create(at int, e api.Entry) string {
	if k, found := d.found[at]; found {
		v, _ := d.is(k)
		return d.reply(at, api.RepFound, api.Found{Key: k, Version: v})
	}
	if v, _ := d.is(e.Key); v.Live {
		return "exists"
	}
	made, no := refs.Resolve(e.Value, d.bound())
	if no != api.OK {
		return "unfit"
	}
	return d.write(at, api.RepMade, true, made)
}

func (d *doing) update(at int, e api.Entry) string {
	v, _ := d.is(e.Key)
	if status := wanted(e, v); status != "" && e.If != 0 {
		return status
	}
	made, no := refs.Resolve(e.Value, d.bound())
	if no != api.OK {
		return "unfit"
	}
	if !v.Live {
		return d.write(at, api.RepMade, true, made)
	}
	return d.write(at, api.RepPut, true, made)
}

func (d *doing) edit(at int, e api.Entry) string {
	v, _ := d.is(e.Key)
	if status := wanted(e, v); status != "" {
		return status
	}
	edits := slices.Clone(e.Edits)
	for i, x := range edits {
		resolved, no := refs.Resolve([]api.Field{{Texts: []string{x.Text}}}, d.bound())
		if no != api.OK {
			return "unfit"
		}
		edits[i].Text = resolved[0].Texts[0]
	}
	made, no := patch.Apply(v.Value, edits)
	if no != api.OK {
		return "unfit"
	}
	return d.write(at, api.RepPut, true, made)
}

// look does an entry that only reads.
func (d *doing) look(at int, e api.Entry) string {
	one := func(v api.Version, there bool) string {
		f := api.Found{Key: e.Key, Version: v}
		switch {
		case !there:
			return d.reply(at, api.RepMissing)
		case !v.Live:
			return d.reply(at, api.RepDeleted, f)
		}
		return d.reply(at, api.RepFound, f)
	}
	then := func(k api.Key) (api.Version, bool) { return d.world.at(k, e.Stamp) }
	switch e.Kind {
	case api.EnRead:
		return one(d.is(e.Key))
	case api.EnAt:
		return one(then(e.Key))
	case api.EnSearch:
		return d.reply(at, api.RepList, d.live(e.Key.Type, e.Pred, d.is)...)
	case api.EnFind:
		return d.reply(at, api.RepList, d.live(e.Key.Type, e.Pred, then)...)
	case api.EnSince:
		return d.reply(at, api.RepList, d.log(e.Stamp, func(k api.Key) bool { return k.Type == e.Key.Type })...)
	case api.EnHistory:
		return d.reply(at, api.RepList, d.log(e.Stamp, func(k api.Key) bool { return k == e.Key })...)
	}
	// By its number.
	for _, v := range d.world[e.Key] {
		if v.Number == e.Number {
			return one(v, true)
		}
	}
	return one(api.Version{}, false)
}
