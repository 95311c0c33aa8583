package audit

import (
	"slices"

	"folio/api"
	"folio/marks"
)

// Ahead says whether a stands ahead of b.
func Ahead(a, b Node) bool {
	return known(&a, &b) || later(&a, &b) && marks.Hits(a.Marks, b.Changes)
}

// known says whether b could know of a: it was asked behind a's answer, or its snapshot has what a wrote.
func known(a, b *Node) bool {
	return a.Answered < b.Asked || len(a.Changes) > 0 && a.Answer.Stamp <= b.Answer.Snap
}

// later says whether what b writes is not in a's snapshot.
func later(a, b *Node) bool { return b.Answer.Stamp > a.Answer.Snap }

// Order puts nodes in an order.
func Order(l []Node) ([]int, bool) {
	missed := misses(l)
	waits := make([]int, len(l)) // of each, how many that aren't told yet stand ahead of it
	add := func(a, n int) {
		for b := range l {
			if a != b && (known(&l[a], &l[b]) || has(missed[a], b)) {
				waits[b] += n
			}
		}
	}
	for a := range l {
		add(a, 1)
	}
	var order []int
	for range l {
		next := slices.Index(waits, 0)
		if next < 0 {
			return nil, false
		}
		order = append(order, next)
		add(next, -1)
		// So that it isn't found again: all that stand ahead of it are told, so it stays so.
		waits[next] = -1
	}
	return order, true
}

// has says whether a place is among sorted ones.
func has(sorted []int, place int) bool {
	_, found := slices.BinarySearch(sorted, place)
	return found
}

// written is a change of a node: the places of both.
type written struct{ node, at int }

// change is the change in the list of its node.
func (w written) change(l []Node) *api.Change { return &l[w.node].Changes[w.at] }

// writers are all changes of nodes, by what they write, those of each key in order of their places.
func writers(l []Node) map[api.Key][]written {
	by := map[api.Key][]written{}
	for node, n := range l {
		for at, c := range n.Changes {
			by[c.Key] = append(by[c.Key], written{node, at})
		}
	}
	return by
}

// misses are of each node the places of those that write what it has read and not seen, sorted.
func misses(l []Node) [][]int {
	by := writers(l)
	all := make([][]int, len(l))
	for at := range l {
		all[at] = missed(l, at, by)
	}
	return all
}

// missed are the places of those that write what the node at a place has read and not seen, sorted; of one that writes several keys it may stand there several times.
func missed(l []Node, at int, by map[api.Key][]written) []int {
	n := &l[at]
	var places []int
	for _, list := range by {
		for _, w := range list {
			if later(n, &l[w.node]) && marks.Hits(n.Marks, l[w.node].Changes[w.at:w.at+1]) {
				places = append(places, w.node)
			}
		}
	}
	slices.Sort(places)
	return places
}
