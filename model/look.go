package model

import (
	"cmp"
	"slices"
	"sort"

	"folio/api"
	"folio/name"
	"folio/pred"
)

// view is what a key is for who looks, if it is anything.
type view func(k api.Key) (api.Version, bool)

// at is the view of a stamp: of each key the version that is visible there.
func (m *Model) at(t uint64) view {
	return func(k api.Key) (api.Version, bool) {
		l := m.versions[k]
		visible := len(l) - len(above(l, t))
		if visible == 0 {
			return api.Version{}, false
		}
		return l[visible-1], true
	}
}

// numbered is the view of a number: of each key the version that has it.
func (m *Model) numbered(n int) view {
	return func(k api.Key) (api.Version, bool) {
		l := m.versions[k]
		if n < 1 || n > len(l) {
			return api.Version{}, false
		}
		return l[n-1], true
	}
}

// above are those of a key's versions whose stamps are above one.
func above(l []api.Version, t uint64) []api.Version {
	return l[sort.Search(len(l), func(i int) bool { return l[i].Stamp > t }):]
}

// live are those of some keys that are live in a view, with a value that a predicate takes.
func live(keys []api.Key, p []api.Term, is view) []api.Found {
	var l []api.Found
	for _, k := range keys {
		if v, _ := is(k); v.Live && pred.Match(p, v.Value) {
			l = append(l, found(k, v))
		}
	}
	return l
}

// log are the versions of some keys with stamps above one: by stamp, then in the keys' order.
func (m *Model) log(keys []api.Key, since uint64) []api.Found {
	var l []api.Found
	for _, k := range keys {
		for _, v := range above(m.versions[k], since) {
			l = append(l, found(k, v))
		}
	}
	// Stable, so that those of one stamp stay as their keys stand.
	slices.SortStableFunc(l, func(a, b api.Found) int { return cmp.Compare(a.Version.Stamp, b.Version.Stamp) })
	return l
}

// with are rising keys and one more, rising.
func with(keys []api.Key, k api.Key) []api.Key {
	i, there := slices.BinarySearchFunc(keys, k, name.Compare)
	if there {
		return keys
	}
	return slices.Insert(keys, i, k)
}

// found is a key with a version in memory of its own.
func found(k api.Key, v api.Version) api.Found {
	v.Value = slices.Clone(v.Value)
	for i := range v.Value {
		v.Value[i].Texts = slices.Clone(v.Value[i].Texts)
	}
	return api.Found{Key: k, Version: v}
}
