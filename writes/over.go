package writes

import (
	"slices"

	"folio/api"
	"folio/name"
	"folio/pred"
)

// Over lays what is written over what was found.
func (s *Set) Over(found []api.Found, typ string, p []api.Term) []api.Found {
	list := append(s.spared(found), s.taken(typ, p)...)
	// Stable, since found may have a key more than once. No key comes from both sides, so that the order in which the map tells its keys isn't seen.
	slices.SortStableFunc(list, func(a, b api.Found) int { return name.Compare(a.Key, b.Key) })
	return list
}

// spared are those of found whose key is not written, in memory of their own.
func (s *Set) spared(found []api.Found) []api.Found {
	var list []api.Found
	for _, f := range found {
		if _, there := s.all()[f.Key]; there {
			continue
		}
		f.Version.Value = copied(f.Version.Value)
		list = append(list, f)
	}
	return list
}

// taken are the live writes of a type that a predicate takes, in no order, in memory of their own.
func (s *Set) taken(typ string, p []api.Term) []api.Found {
	var list []api.Found
	for k, w := range s.all() {
		if k.Type == typ && w.live && pred.Match(p, w.value) {
			list = append(list, api.Found{Key: k, Version: api.Version{Live: true, Value: copied(w.value)}})
		}
	}
	return list
}
