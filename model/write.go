package model

import (
	"slices"

	"folio/api"
	"folio/patch"
	"folio/pred"
	"folio/refs"
)

// write lays down what an entry's key is from now on, and tells it.
func (d *doing) write(at, kind int, live bool, value []api.Field) int {
	k := d.tasks[at].entry.Key
	v := api.Version{Number: len(d.model.versions[k]) + 1, Stamp: d.stamp, Tick: d.tick, Live: live, Value: value}
	d.written[k] = v
	return d.reply(at, kind, found(k, v))
}

// wanting is why an entry can't be done that needs its key to be there, with the number that it names; else Success.
func (d *doing) wanting(e api.Entry) int {
	now, _ := d.is(e.Key)
	switch {
	case !now.Live:
		return api.Absent
	case e.If != 0 && e.If != now.Number:
		return api.Mismatch
	}
	return api.Success
}

// remove is what a delete does.
func (d *doing) remove(at int) int {
	if status := d.wanting(d.tasks[at].entry); status != api.Success {
		return status
	}
	return d.write(at, api.RepDropped, false, nil)
}

// ask is what an ensure does at first: those ahead of it that are to be made aren't there yet, but count.
func (d *doing) ask(at int) int {
	t := &d.tasks[at]
	t.asked = true
	l := d.search(t.entry.Key.Type, t.entry.Pred)
	for _, ahead := range d.tasks[:at] {
		made := ahead.entry.Kind == api.EnEnsure && !ahead.found
		if made && ahead.entry.Key.Type == t.entry.Key.Type && pred.Match(t.entry.Pred, ahead.entry.Value) {
			l = append(l, api.Found{Key: ahead.entry.Key})
		}
	}
	if len(l) > 1 {
		return api.Several
	}
	for _, f := range l {
		t.found, t.means = true, f.Key
	}
	return api.Success
}

// create is what a create does, and an ensure that has found none.
func (d *doing) create(at int) int {
	if now, _ := d.is(d.tasks[at].entry.Key); now.Live {
		return api.Exists
	}
	return d.put(at, api.RepMade)
}

// ensure is what an ensure does when all have asked.
func (d *doing) ensure(at int) int {
	t := d.tasks[at]
	if !t.found {
		return d.create(at)
	}
	v, _ := d.is(t.means)
	return d.reply(at, api.RepFound, found(t.means, v))
}

// update is what an update does.
func (d *doing) update(at int) int {
	e := d.tasks[at].entry
	if status := d.wanting(e); e.If != 0 && status != api.Success {
		return status
	}
	if now, _ := d.is(e.Key); now.Live {
		return d.put(at, api.RepPut)
	}
	return d.put(at, api.RepMade)
}

// put writes an entry's value, resolved.
func (d *doing) put(at, kind int) int {
	v, e := refs.Resolve(d.tasks[at].entry.Value, d.binds())
	if e != api.OK {
		return api.Unfit
	}
	return d.write(at, kind, true, v)
}

// edit is what a patch does.
func (d *doing) edit(at int) int {
	e := d.tasks[at].entry
	if status := d.wanting(e); status != api.Success {
		return status
	}
	edits := slices.Clone(e.Edits)
	for i := range edits {
		text := []api.Field{{Texts: []string{edits[i].Text}}}
		resolved, no := refs.Resolve(text, d.binds())
		if no != api.OK {
			return api.Unfit
		}
		edits[i].Text = resolved[0].Texts[0]
	}
	now, _ := d.is(e.Key)
	v, no := patch.Apply(now.Value, edits)
	if no != api.OK {
		return api.Unfit
	}
	return d.write(at, api.RepPut, true, v)
}

// binds say what the temporary names stand for, when all ensures have asked.
func (d *doing) binds() []api.Bind {
	var l []api.Bind
	for _, t := range d.tasks {
		if t.entry.Temp != "" {
			l = append(l, api.Bind{Name: t.entry.Temp, Key: t.means})
		}
	}
	return l
}
