package bundle

import (
	"slices"
	"strings"

	"folio/api"
	"folio/marks"
	"folio/name"
	"folio/op"
	"folio/patch"
	"folio/pred"
	"folio/store"
	"folio/value"
)

// plain is a run as the chapter spells it out; it works in transactions of a store that it can look into.
type plain struct {
	store   *store.Store
	r       api.Request
	steps   []plainStep
	next    int
	founds  map[int]api.Key // the ensures that have found one
	replies []api.Reply
	status  int
	at      int
}

// plainStep is one of the entry at a place; asks tells an ensure's two apart.
type plainStep struct {
	at   int
	asks bool
}

// plainFit spells out which requests are fit.
func plainFit(r api.Request) api.Errno {
	if !op.May(r) {
		return api.ErrForm
	}
	temps, keys := map[string]int{}, map[api.Key]int{}
	for _, e := range r.Entries {
		if e.Temp != "" {
			temps[e.Temp]++
		}
		if e.Kind == api.EnCreate || e.Kind == api.EnEnsure || e.Kind == api.EnUpdate || e.Kind == api.EnPatch || e.Kind == api.EnDelete {
			keys[e.Key]++
		}
		if temps[e.Temp] > 1 || keys[e.Key] > 1 {
			return api.ErrTwice
		}
	}
	return api.OK
}

// plainSteps spells out the steps of a fit request.
func plainSteps(r api.Request) []plainStep {
	var list []plainStep
	add := func(asks bool, kinds ...int) {
		for at, e := range r.Entries {
			if slices.Contains(kinds, e.Kind) {
				list = append(list, plainStep{at, asks})
			}
		}
	}
	add(false, api.EnDelete)
	add(true, api.EnEnsure)
	add(false, api.EnCreate, api.EnEnsure)
	add(false, api.EnUpdate)
	add(false, api.EnPatch)
	add(false, api.EnRead, api.EnNumber, api.EnSearch, api.EnHistory, api.EnSince, api.EnAt, api.EnFind)
	return list
}

func newPlain(s *store.Store, r api.Request) (*plain, api.Errno) {
	if e := plainFit(r); e != api.OK {
		return nil, e
	}
	return &plain{store: s, r: r, steps: plainSteps(r), founds: map[int]api.Key{}, replies: make([]api.Reply, len(r.Entries))}, api.OK
}

func (p *plain) done() bool { return p.status != 0 }

// step does the next step, if there is one and x is open.
func (p *plain) step(x *store.Txn) {
	if p.done() || x == nil || x.Ended() {
		return
	}
	s := p.steps[p.next]
	p.next++
	e := p.r.Entries[s.at]
	status := 0
	switch {
	case s.asks:
		status = p.ask(x, s.at)
	case e.Kind == api.EnDelete:
		status = p.remove(x, s.at)
	case e.Kind == api.EnPatch:
		status = p.edit(x, s.at)
	case op.Writes(e):
		status = p.write(x, s.at)
	default:
		status = p.tell(x, s.at)
	}
	if status != 0 {
		x.Drop()
		p.status, p.at, p.replies = status, s.at, nil
	} else if p.next == len(p.steps) {
		p.status = api.Success
	}
}

func (p *plain) told() []api.Reply {
	if p.status != api.Success {
		return nil
	}
	return p.replies
}

// after is a version of k that the transaction has written.
func (p *plain) after(x *store.Txn, k api.Key, live bool, v []api.Field) api.Found {
	was, _ := p.store.Visible(k, x.Snap())
	return api.Found{Key: k, Version: api.Version{Number: was.Number + 1, Live: live, Value: v}}
}

func (p *plain) remove(x *store.Txn, at int) int {
	e := p.r.Entries[at]
	v, no := x.Read(e.Key)
	if no == api.ErrNone || !v.Live {
		return api.Absent
	}
	if e.If > 0 && v.Number != e.If {
		return api.Mismatch
	}
	if no := x.Delete(e.Key); no != api.OK {
		return -1
	}
	f := p.after(x, e.Key, false, nil)
	if was, _ := p.store.Visible(e.Key, x.Snap()); !was.Live {
		// What the transaction wrote ahead of the run is forgotten: what there was is what isn't live.
		f.Version = was
	}
	p.replies[at] = api.Reply{Kind: api.RepDropped, List: []api.Found{f}}
	return 0
}

func (p *plain) ask(x *store.Txn, at int) int {
	e := p.r.Entries[at]
	found, no := x.Scan(e.Key.Type, e.Pred)
	if no != api.OK {
		return -1
	}
	n := len(found)
	if n == 1 {
		p.founds[at] = found[0].Key
	}
	for i, ahead := range p.r.Entries[:at] {
		if ahead.Kind != api.EnEnsure || ahead.Key.Type != e.Key.Type || !pred.Match(e.Pred, ahead.Value) {
			continue
		}
		if _, found := p.founds[i]; !found {
			n++
			p.founds[at] = ahead.Key
		}
	}
	if n > 1 {
		return api.Several
	}
	return 0
}

// resolve puts references in the place of temporary ones, if it can.
func (p *plain) resolve(text string) (string, bool) {
	temp, found := strings.CutPrefix(text, "*@")
	if !found || !name.Temp(temp) {
		return text, true
	}
	for i, e := range p.r.Entries {
		if e.Temp != temp {
			continue
		}
		k, found := p.founds[i]
		if !found {
			k = e.Key
		}
		return "*" + k.Type + "/" + k.ID, true
	}
	return "", false
}

func (p *plain) resolveValue(v []api.Field) ([]api.Field, bool) {
	var made []api.Field
	for _, f := range v {
		g := api.Field{Name: f.Name}
		for _, text := range f.Texts {
			is, ok := p.resolve(text)
			if !ok {
				return nil, false
			}
			g.Texts = append(g.Texts, is)
		}
		made = append(made, g)
	}
	return made, true
}

// write does a create, an ensure that makes or has found one, or an update.
func (p *plain) write(x *store.Txn, at int) int {
	e := p.r.Entries[at]
	if k, found := p.founds[at]; found {
		v, _ := x.Read(k)
		p.replies[at] = api.Reply{Kind: api.RepFound, List: []api.Found{{Key: k, Version: v}}}
		return 0
	}
	v, _ := x.Read(e.Key)
	if v.Live && e.Kind != api.EnUpdate {
		return api.Exists
	}
	if e.If > 0 && !v.Live {
		return api.Absent
	}
	if e.If > 0 && e.If != v.Number {
		return api.Mismatch
	}
	made, ok := p.resolveValue(e.Value)
	if !ok {
		return api.Unfit
	}
	if no := x.Put(e.Key, made); no != api.OK {
		return -1
	}
	kind := api.RepMade
	if v.Live {
		kind = api.RepPut
	}
	p.replies[at] = api.Reply{Kind: kind, List: []api.Found{p.after(x, e.Key, true, made)}}
	return 0
}

func (p *plain) edit(x *store.Txn, at int) int {
	e := p.r.Entries[at]
	v, _ := x.Read(e.Key)
	if !v.Live {
		return api.Absent
	}
	if e.If > 0 && e.If != v.Number {
		return api.Mismatch
	}
	var edits []api.Edit
	for _, one := range e.Edits {
		text, ok := p.resolve(one.Text)
		if !ok {
			return api.Unfit
		}
		edits = append(edits, api.Edit{Kind: one.Kind, Field: one.Field, Text: text})
	}
	made, no := patch.Apply(v.Value, edits)
	if no != api.OK {
		return api.Unfit
	}
	x.Put(e.Key, made)
	p.replies[at] = api.Reply{Kind: api.RepPut, List: []api.Found{p.after(x, e.Key, true, made)}}
	return 0
}

// tell does an entry that only reads.
func (p *plain) tell(x *store.Txn, at int) int {
	e := p.r.Entries[at]
	var l []api.Found
	var no api.Errno
	one := func(v api.Version, e2 api.Errno) {
		no = e2
		if no == api.OK {
			l = []api.Found{{Key: e.Key, Version: v}}
		}
	}
	list := false
	switch e.Kind {
	case api.EnRead:
		one(x.Read(e.Key))
	case api.EnNumber:
		if e.Number > 0 {
			one(x.Number(e.Key, e.Number))
		}
	case api.EnAt:
		one(x.At(e.Stamp, e.Key))
	case api.EnSearch:
		list = true
		l, no = x.Scan(e.Key.Type, e.Pred)
	case api.EnFind:
		list = true
		l, no = x.Find(e.Stamp, e.Key.Type, e.Pred)
	case api.EnSince:
		list = true
		l, no = x.Since(e.Key.Type, e.Stamp)
	case api.EnHistory:
		list = true
		var versions []api.Version
		versions, no = x.History(e.Key, e.Stamp)
		for _, v := range versions {
			l = append(l, api.Found{Key: e.Key, Version: v})
		}
	}
	if no == api.ErrOld {
		return api.Past
	}
	kind := api.RepList
	if !list {
		kind = api.RepMissing
		if len(l) > 0 && l[0].Version.Live {
			kind = api.RepFound
		} else if len(l) > 0 {
			kind = api.RepDeleted
		}
	}
	p.replies[at] = api.Reply{Kind: kind, List: l}
	return 0
}

func sameVersion(a, b api.Version) bool {
	return a.Number == b.Number && a.Stamp == b.Stamp && a.Tick == b.Tick && a.Live == b.Live && value.Equal(a.Value, b.Value)
}

func sameFound(a, b api.Found) bool { return a.Key == b.Key && sameVersion(a.Version, b.Version) }

func sameReply(a, b api.Reply) bool {
	return a.Kind == b.Kind && slices.EqualFunc(a.List, b.List, sameFound)
}

func sameReplies(a, b []api.Reply) bool { return slices.EqualFunc(a, b, sameReply) }

func sameChange(a, b api.Change) bool {
	return a.Key == b.Key && a.WasLive == b.WasLive && a.IsLive == b.IsLive && value.Equal(a.Was, b.Was) && value.Equal(a.Is, b.Is)
}

// sameTxn says whether two transactions have read and written the same.
func sameTxn(a, b *store.Txn) bool {
	return a.Ended() == b.Ended() && a.Snap() == b.Snap() && marks.Equal(a.Marks(), b.Marks()) && slices.EqualFunc(a.Changes(), b.Changes(), sameChange)
}

// unlike is what a run and one spelt out, each in a transaction of its own store, don't tell alike: "" if nothing.
func unlike(b *Run, p *plain, x, y *store.Txn) string {
	switch {
	case b.Done() != p.done():
		return "Done"
	case b.Status() != p.status:
		return "Status"
	case b.At() != p.at:
		return "At"
	case !sameReplies(b.Replies(), p.told()):
		return "Replies"
	case !sameTxn(x, y):
		return "what is read and written"
	}
	return ""
}
