package track

import (
	"slices"

	"folio/api"
)

// own is a done one in memory of its own.
func own(d api.Done) api.Done {
	d.Marks.Keys = slices.Clone(d.Marks.Keys)
	d.Marks.Ranges = each(d.Marks.Ranges, ownRange)
	d.Changes = each(d.Changes, ownChange)
	return d
}

func ownRange(r api.Range) api.Range {
	r.Pred = slices.Clone(r.Pred)
	return r
}

func ownChange(c api.Change) api.Change {
	c.Was, c.Is = each(c.Was, ownField), each(c.Is, ownField)
	return c
}

func ownField(f api.Field) api.Field {
	f.Texts = slices.Clone(f.Texts)
	return f
}

// each is a new list of what made makes of each one of the list.
func each[T any](list []T, made func(T) T) []T {
	all := make([]T, 0, len(list))
	for _, one := range list {
		all = append(all, made(one))
	}
	return all
}
