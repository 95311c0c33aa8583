package dir

import (
	"cmp"
	"iter"
	"slices"

	"folio/api"
	"folio/name"
	"folio/pred"
)

// live goes over those of the keys of which a live version is visible at t, each with that version.
func (d *Dir) live(keys []api.Key, t uint64) iter.Seq2[api.Key, api.Version] {
	return func(yield func(api.Key, api.Version) bool) {
		for _, k := range keys {
			// Where none is visible, the zero version isn't live either.
			if v, _ := d.At(k, t); v.Live && !yield(k, v) {
				return
			}
		}
	}
}

// Scan are the live ones of a type that a predicate takes.
func (d *Dir) Scan(typ string, t uint64, p []api.Term) []api.Found {
	var found []api.Found
	for k, v := range d.live(d.Keys(typ), t) {
		if pred.Match(p, v.Value) {
			found = append(found, api.Found{Key: k, Version: v})
		}
	}
	return found
}

// Log are the versions of a type above a stamp.
func (d *Dir) Log(typ string, t uint64) []api.Found {
	var found []api.Found
	for _, k := range d.Keys(typ) {
		for _, v := range d.Since(k, t) {
			found = append(found, api.Found{Key: k, Version: v})
		}
	}
	slices.SortFunc(found, earlier)
	return found
}

// earlier says which of two stands ahead in a log.
func earlier(a, b api.Found) int {
	return cmp.Or(cmp.Compare(a.Version.Stamp, b.Version.Stamp), name.Compare(a.Key, b.Key))
}

// Walk goes over all live ones at t.
func (d *Dir) Walk(t uint64) iter.Seq2[api.Key, api.Version] {
	// All of it is found now: what is put or pruned later must not be seen by who walks.
	var found []api.Found
	for k, v := range d.live(d.keys(), t) {
		found = append(found, api.Found{Key: k, Version: v})
	}
	return func(yield func(api.Key, api.Version) bool) {
		for _, f := range found {
			v := f.Version
			// In memory of its own each time, since it may be walked again.
			v.Value = copied(v.Value)
			if !yield(f.Key, v) {
				return
			}
		}
	}
}

// copied is a value in memory of its own.
func copied(v []api.Field) []api.Field {
	own := slices.Clone(v)
	for i := range own {
		own[i].Texts = slices.Clone(own[i].Texts)
	}
	return own
}
