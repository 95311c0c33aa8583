package model

import (
	"slices"
	"strings"

	"folio/api"
	"folio/name"
	"folio/op"
	"folio/patch"
	"folio/pred"
	"folio/value"
)

// plain is the chapter spelt out: all versions in one list, as they were put in, which every look goes through from end to end.
type plain struct{ put []api.Found }

// plainDoing is a request that is being done.
type plainDoing struct {
	*plain
	r       api.Request
	stamp   uint64
	tick    int64
	written []api.Found
	founds  map[int]api.Key // the ensures that have found one
	replies []api.Reply
}

func plainFit(r api.Request) bool {
	temps, keys := map[string]int{}, map[api.Key]int{}
	for _, e := range r.Entries {
		if e.Temp != "" {
			temps[e.Temp]++
		}
		if slices.Contains([]int{api.EnCreate, api.EnEnsure, api.EnUpdate, api.EnPatch, api.EnDelete}, e.Kind) {
			keys[e.Key]++
		}
		if temps[e.Temp] > 1 || keys[e.Key] > 1 {
			return false
		}
	}
	return op.May(r)
}

func (p *plain) do(r api.Request, stamp uint64, tick int64) (api.Answer, api.Errno) {
	if !plainFit(r) {
		return api.Answer{Status: api.Malformed}, api.OK
	}
	d := &plainDoing{p, r, stamp, tick, nil, map[int]api.Key{}, make([]api.Reply, len(r.Entries))}
	for _, phase := range []struct {
		does  func(at int, e api.Entry) int
		kinds []int
	}{
		{d.remove, []int{api.EnDelete}},
		{d.ask, []int{api.EnEnsure}},
		{d.make, []int{api.EnCreate, api.EnEnsure}},
		{d.make, []int{api.EnUpdate}},
		{d.edit, []int{api.EnPatch}},
		{d.tell, []int{api.EnRead, api.EnNumber, api.EnSearch, api.EnHistory, api.EnSince, api.EnAt, api.EnFind}},
	} {
		for at, e := range r.Entries {
			if !slices.Contains(phase.kinds, e.Kind) {
				continue
			}
			if status := phase.does(at, e); status != 0 {
				return api.Answer{Status: status, At: at}, api.OK
			}
		}
	}
	a := api.Answer{Status: api.Success, Replies: d.replies}
	if len(d.written) == 0 {
		return a, api.OK
	}
	for _, f := range d.written {
		for _, g := range p.put {
			if g.Key == f.Key && g.Version.Stamp >= stamp {
				return api.Answer{}, api.ErrOld
			}
		}
	}
	if stamp == 0 {
		return api.Answer{}, api.ErrOld
	}
	p.put = append(p.put, d.written...)
	a.Stamp, a.Tick = stamp, tick
	return a, api.OK
}

// at is the version of a key with the greatest stamp that is t or less.
func (p *plain) at(k api.Key, t uint64) (v api.Version, there bool) {
	for _, f := range p.put {
		if f.Key == k && f.Version.Stamp <= t && f.Version.Stamp > v.Stamp {
			v, there = f.Version, true
		}
	}
	return v, there
}

// is what a key is for the request.
func (d *plainDoing) is(k api.Key) (api.Version, bool) {
	for _, f := range d.written {
		if f.Key == k {
			return f.Version, true
		}
	}
	return d.at(k, api.MaxStamp)
}

// liveIn are the live ones of a type that a predicate takes, as each is.
func liveIn(put []api.Found, typ string, p []api.Term, is func(api.Key) (api.Version, bool)) []api.Found {
	var l []api.Found
	for _, f := range put {
		seen := slices.ContainsFunc(l, func(g api.Found) bool { return g.Key == f.Key })
		if v, _ := is(f.Key); f.Key.Type == typ && v.Live && pred.Match(p, v.Value) && !seen {
			l = append(l, api.Found{Key: f.Key, Version: v})
		}
	}
	slices.SortFunc(l, func(a, b api.Found) int { return name.Compare(a.Key, b.Key) })
	return l
}

func (p *plain) all(typ string) []api.Found {
	return liveIn(p.put, typ, nil, func(k api.Key) (api.Version, bool) { return p.at(k, api.MaxStamp) })
}

func (d *plainDoing) search(e api.Entry) []api.Found {
	return liveIn(slices.Concat(d.put, d.written), e.Key.Type, e.Pred, d.is)
}

// since are the versions above a stamp that are asked for, by stamp, then by key.
func (p *plain) since(t uint64, asks func(k api.Key) bool) []api.Found {
	var l []api.Found
	for _, f := range p.put {
		if !asks(f.Key) || f.Version.Stamp <= t {
			continue
		}
		i := 0
		for i < len(l) && (l[i].Version.Stamp < f.Version.Stamp || l[i].Version.Stamp == f.Version.Stamp && name.Compare(l[i].Key, f.Key) < 0) {
			i++
		}
		l = slices.Insert(l, i, f)
	}
	return l
}

func (d *plainDoing) writes(at, kind int, live bool, v []api.Field) int {
	k, number := d.r.Entries[at].Key, 1
	for _, f := range d.put {
		if f.Key == k {
			number++
		}
	}
	f := api.Found{Key: k, Version: api.Version{Number: number, Stamp: d.stamp, Tick: d.tick, Live: live, Value: v}}
	d.written = append(d.written, f)
	d.replies[at] = api.Reply{Kind: kind, List: []api.Found{f}}
	return 0
}

func (d *plainDoing) remove(at int, e api.Entry) int {
	v, _ := d.is(e.Key)
	if !v.Live {
		return api.Absent
	}
	if e.If > 0 && v.Number != e.If {
		return api.Mismatch
	}
	return d.writes(at, api.RepDropped, false, nil)
}

func (d *plainDoing) ask(at int, e api.Entry) int {
	l := d.search(e)
	for i, ahead := range d.r.Entries[:at] {
		_, found := d.founds[i]
		if ahead.Kind == api.EnEnsure && !found && ahead.Key.Type == e.Key.Type && pred.Match(e.Pred, ahead.Value) {
			l = append(l, api.Found{Key: ahead.Key})
		}
	}
	if len(l) > 1 {
		return api.Several
	}
	for _, f := range l {
		d.founds[at] = f.Key
	}
	return 0
}

// resolve puts references in the place of temporary ones, if it can.
func (d *plainDoing) resolve(text string) (string, bool) {
	temp, is := strings.CutPrefix(text, "*@")
	if !is || !name.Temp(temp) {
		return text, true
	}
	for i, e := range d.r.Entries {
		if e.Temp != temp {
			continue
		}
		k, found := d.founds[i]
		if !found {
			k = e.Key
		}
		return "*" + k.Type + "/" + k.ID, true
	}
	return "", false
}

// make does a create, an ensure that makes or has found one, or an update.
func (d *plainDoing) make(at int, e api.Entry) int {
	if k, found := d.founds[at]; found {
		v, _ := d.is(k)
		d.replies[at] = api.Reply{Kind: api.RepFound, List: []api.Found{{Key: k, Version: v}}}
		return 0
	}
	v, _ := d.is(e.Key)
	switch {
	case v.Live && e.Kind != api.EnUpdate:
		return api.Exists
	case e.If > 0 && !v.Live:
		return api.Absent
	case e.If > 0 && e.If != v.Number:
		return api.Mismatch
	}
	var made []api.Field
	for _, f := range e.Value {
		g := api.Field{Name: f.Name}
		for _, text := range f.Texts {
			is, ok := d.resolve(text)
			if !ok {
				return api.Unfit
			}
			g.Texts = append(g.Texts, is)
		}
		made = append(made, g)
	}
	kind := api.RepMade
	if v.Live {
		kind = api.RepPut
	}
	return d.writes(at, kind, true, made)
}

func (d *plainDoing) edit(at int, e api.Entry) int {
	v, _ := d.is(e.Key)
	if !v.Live {
		return api.Absent
	}
	if e.If > 0 && e.If != v.Number {
		return api.Mismatch
	}
	var edits []api.Edit
	for _, one := range e.Edits {
		text, ok := d.resolve(one.Text)
		if !ok {
			return api.Unfit
		}
		edits = append(edits, api.Edit{Kind: one.Kind, Field: one.Field, Text: text})
	}
	made, no := patch.Apply(v.Value, edits)
	if no != api.OK {
		return api.Unfit
	}
	return d.writes(at, api.RepPut, true, made)
}

// tell does an entry that only reads.
func (d *plainDoing) tell(at int, e api.Entry) int {
	then := func(k api.Key) (api.Version, bool) { return d.plain.at(k, e.Stamp) }
	one := func(v api.Version, there bool) api.Reply {
		switch {
		case !there:
			return api.Reply{Kind: api.RepMissing}
		case !v.Live:
			return api.Reply{Kind: api.RepDeleted, List: []api.Found{{Key: e.Key, Version: v}}}
		}
		return api.Reply{Kind: api.RepFound, List: []api.Found{{Key: e.Key, Version: v}}}
	}
	list := func(l []api.Found) api.Reply { return api.Reply{Kind: api.RepList, List: l} }
	switch e.Kind {
	case api.EnRead:
		d.replies[at] = one(d.is(e.Key))
	case api.EnAt:
		d.replies[at] = one(then(e.Key))
	case api.EnSearch:
		d.replies[at] = list(d.search(e))
	case api.EnFind:
		d.replies[at] = list(liveIn(d.put, e.Key.Type, e.Pred, then))
	case api.EnSince:
		d.replies[at] = list(d.since(e.Stamp, func(k api.Key) bool { return k.Type == e.Key.Type }))
	case api.EnHistory:
		d.replies[at] = list(d.since(e.Stamp, func(k api.Key) bool { return k == e.Key }))
	case api.EnNumber:
		d.replies[at] = one(api.Version{}, false)
		for _, f := range d.put {
			if f.Key == e.Key && f.Version.Number == e.Number {
				d.replies[at] = one(f.Version, true)
			}
		}
	}
	return 0
}

func sameVersion(a, b api.Version) bool {
	return a.Number == b.Number && a.Stamp == b.Stamp && a.Tick == b.Tick && a.Live == b.Live && value.Equal(a.Value, b.Value)
}

func sameFound(a, b api.Found) bool { return a.Key == b.Key && sameVersion(a.Version, b.Version) }

func sameFounds(a, b []api.Found) bool { return slices.EqualFunc(a, b, sameFound) }

func sameReply(a, b api.Reply) bool { return a.Kind == b.Kind && sameFounds(a.List, b.List) }

func sameReplies(a, b []api.Reply) bool { return slices.EqualFunc(a, b, sameReply) }

// sameAnswer holds all that an answer says.
func sameAnswer(a, b api.Answer) bool {
	return a.Status == b.Status && a.At == b.At && a.Snap == b.Snap && a.Stamp == b.Stamp && a.Tick == b.Tick && a.Tries == b.Tries && sameReplies(a.Replies, b.Replies)
}
