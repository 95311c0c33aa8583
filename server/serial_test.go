package server

import (
	"cmp"
	"fmt"
	"slices"
	"testing"

	"folio/api"
	"folio/marks"
	"folio/name"
)

// node is a request of a run that was answered with a status from Success to Unfit.
type node struct {
	asked, answered int // the places of its events
	request         api.Request
	answer          api.Answer
	marks           api.Marks
	changes         []api.Change
}

// nodes are those of a run, in the order of their answers.
func nodes(l []api.Event) []*node {
	asks := map[[2]int]int{}
	var all []*node
	for i, e := range l {
		who := [2]int{e.Client, e.Number}
		if e.Kind == api.EvAsk {
			asks[who] = i
		}
		if e.Kind == api.EvAnswer && e.Answer.Status <= api.Unfit {
			all = append(all, &node{asked: asks[who], answered: i, request: l[asks[who]].Request, answer: e.Answer, marks: e.Marks})
		}
	}
	// In the order of the stamps, so that what a key was is what was written last.
	byStamp := slices.Clone(all)
	slices.SortStableFunc(byStamp, func(a, b *node) int { return cmp.Compare(a.answer.Stamp, b.answer.Stamp) })
	was := map[api.Key]api.Version{}
	for _, n := range byStamp {
		n.changes = changesOf(n, was)
	}
	return all
}

// changesOf is what a node writes, and lays it over what was.
func changesOf(n *node, was map[api.Key]api.Version) []api.Change {
	var l []api.Change
	for i, r := range n.answer.Replies {
		if !writesOf(n.request.Entries[i], r) {
			continue
		}
		k, v := r.List[0].Key, r.List[0].Version
		l = append(l, api.Change{Key: k, WasLive: was[k].Live, Was: was[k].Value, IsLive: v.Live, Is: v.Value})
		was[k] = v
	}
	slices.SortFunc(l, func(a, b api.Change) int { return name.Compare(a.Key, b.Key) })
	return l
}

// ahead says whether a must stand ahead of b in any order: it was answered ahead of b's beginning, b has seen what it wrote, or b wrote what it has not seen.
func ahead(a, b *node) bool {
	return a.answered < b.asked ||
		len(a.changes) > 0 && a.answer.Stamp <= b.answer.Snap ||
		b.answer.Stamp > a.answer.Snap && marks.Hits(a.marks, b.changes)
}

// serialOrder puts nodes in an order; nil, if there is none.
func serialOrder(all []*node) []*node {
	left := slices.Clone(all)
	var order []*node
	for len(left) > 0 {
		i := slices.IndexFunc(left, func(b *node) bool {
			return !slices.ContainsFunc(left, func(a *node) bool { return a != b && ahead(a, b) })
		})
		if i < 0 {
			return nil
		}
		order = append(order, left[i])
		left = slices.Delete(left, i, i+1)
	}
	return order
}

// unserial is what is wrong with a run, if its requests can't be put in an order in which they are answered the same one after the other: "" if they can.
func unserial(l []api.Event) string {
	all := nodes(l)
	order := serialOrder(all)
	if len(order) != len(all) {
		return "there is no order"
	}
	w := world{}
	for i, n := range order {
		for _, later := range order[i+1:] {
			if later.answered < n.asked {
				return "it isn't the run's own order"
			}
		}
		want := n.answer
		want.Snap, want.Tries = 0, 0
		got, ok := w.do(n.request, want.Stamp, want.Tick)
		if !ok || tellAnswer(got) != tellAnswer(want) || fmt.Sprintf("%+v", got) != fmt.Sprintf("%+v", want) {
			return fmt.Sprintf("%+v: %s, not %s", n.request, tellAnswer(want), tellAnswer(got))
		}
	}
	return ""
}

// serial fails unless a run is as if its requests had been done one after the other: P1.
func serial(t *testing.T, l []api.Event) {
	t.Helper()
	if what := unserial(l); what != "" {
		t.Fatalf("%s:\n%s", what, tell(l))
	}
}

// What isn't serial is told so: else the tests of P1 would say nothing.
func TestUnserial(t *testing.T) {
	turned := 0
	for _, e := range examples() {
		p := scripted(t, e.script)
		serial(t, ran(t, p))
		for i := range ran(t, p) {
			l := ran(t, p)
			a := &l[i].Answer
			if a.Status != api.Success {
				continue
			}
			if r := &a.Replies[0]; len(r.List) == 0 {
				r.Kind = api.RepFound
			} else {
				r.List[0].Version.Number++
			}
			turned++
			if unserial(l) == "" {
				t.Error(tell(l))
			}
		}
	}
	if turned < 12 {
		t.Error(turned)
	}
}

// weaves calls yield with all orders of picks in which each client is picked so often, one list after the other.
func weaves(left []int, taken []api.Action, yield func(l []api.Action)) {
	last := true
	for n := range left {
		if left[n] > 0 {
			last = false
			left[n]--
			weaves(left, append(taken, pick(int64(n))), yield)
			left[n]++
		}
	}
	if last {
		yield(taken)
	}
}

// begins are the lines that are laid ahead.
func begins() [][]string {
	return [][]string{nil, {"create A/a n=1"}, {"create A/a n=2 ; create A/b n=1", "delete A/b"}}
}

// laid is a play of one client for each line, behind a first one that is done ahead of them.
func laid(t *testing.T, c api.Config, ahead []string, lines ...string) api.Play {
	t.Helper()
	p := api.Play{Config: c, Clients: make([][]api.Request, 1+len(lines))}
	for n, line := range lines {
		p.Clients[n] = []api.Request{parsed(t, line)}
	}
	for _, line := range ahead {
		r := parsed(t, line)
		p.Clients[len(lines)] = append(p.Clients[len(lines)], r)
		for range 2 + len(r.Entries) {
			p.Actions = append(p.Actions, pick(int64(len(lines))))
		}
	}
	return p
}

// Two clients of a few lines, woven in all ways: P19.1, P19.2 and P1.
func TestWovenPairs(t *testing.T) {
	for i, first := range begins() {
		for j, one := range few() {
			for k, two := range few() {
				if (j+k)%3 != i {
					continue
				}
				p := laid(t, api.Config{Versions: 9, Tracked: 4, Tries: 3}, first, one, two)
				ahead := len(p.Actions)
				weaves([]int{3, 3}, nil, func(l []api.Action) {
					p.Actions = append(p.Actions[:ahead:ahead], l...)
					told := played(t, p)
					ordered(t, p, told)
					serial(t, told)
				})
			}
		}
	}
}

// pivots are lines each of which reads what another one writes.
func pivots() []string {
	return []string{
		"read A/a ; update A/b n=1", "read A/b ; update A/c n=1", "read A/c ; update A/a n=2", "search A n=1 ; update A/d n=2",
		"search A n=2 ; create A/e n=1", "since A 0", "read A/a ; read A/c", "delete A/a ; read A/d",
	}
}

// Three clients, woven in all ways in which each takes its snapshot, reads and writes, and is committed: P1.
func TestWovenTriples(t *testing.T) {
	config := api.Config{Versions: 30, Tracked: 8, Tries: 2}
	lines := pivots()
	for i, one := range lines {
		for j, two := range lines[:i+1] {
			for _, three := range lines[:j+1] {
				p := laid(t, config, []string{"create A/a n=1 ; create A/c n=3"}, one, two, three)
				ahead := len(p.Actions)
				weaves([]int{2, 2, 2}, nil, func(l []api.Action) {
					p.Actions = p.Actions[:ahead:ahead]
					begun := map[int64]int{}
					for _, a := range l {
						p.Actions = append(p.Actions, a)
						// All of a client's steps but the last one are done when it is first picked.
						if begun[a.N]++; begun[a.N] == 1 {
							for range p.Clients[a.N][0].Entries {
								p.Actions = append(p.Actions, a)
							}
						}
					}
					serial(t, ran(t, p))
				})
			}
		}
	}
}
