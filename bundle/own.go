package bundle

import (
	"slices"

	"folio/api"
)

// ownEntry is an entry in memory of its own.
func ownEntry(e api.Entry) api.Entry {
	e.Value, e.Edits, e.Pred = ownValue(e.Value), slices.Clone(e.Edits), slices.Clone(e.Pred)
	return e
}

// ownReply is a reply in memory of its own.
func ownReply(r api.Reply) api.Reply {
	r.List = slices.Clone(r.List)
	for i := range r.List {
		v := &r.List[i].Version
		v.Value = ownValue(v.Value)
	}
	return r
}

// ownValue is a value in memory of its own.
func ownValue(v []api.Field) []api.Field {
	own := slices.Clone(v)
	for i := range own {
		own[i].Texts = slices.Clone(own[i].Texts)
	}
	return own
}
