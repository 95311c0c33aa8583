package marks

import (
	"slices"

	"folio/api"
	"folio/name"
	"folio/pred"
)

// Touches says whether a change hits a range.
func Touches(r api.Range, c api.Change) bool {
	return c.Key.Type == r.Type && (c.WasLive && pred.Match(r.Pred, c.Was) || c.IsLive && pred.Match(r.Pred, c.Is))
}

// Hits says whether one of the changes hits marks.
func Hits(m api.Marks, l []api.Change) bool {
	return slices.ContainsFunc(l, func(c api.Change) bool { return hit(m, c) })
}

// Which are the keys of the changes that hit marks.
func Which(m api.Marks, l []api.Change) []api.Key {
	var keys []api.Key
	for _, c := range l {
		if hit(m, c) {
			keys = append(keys, c.Key)
		}
	}
	return name.Sort(keys)
}

// hit says whether a change hits marks.
func hit(m api.Marks, c api.Change) bool {
	return slices.Contains(m.Keys, c.Key) || slices.ContainsFunc(m.Ranges, func(r api.Range) bool { return Touches(r, c) })
}
