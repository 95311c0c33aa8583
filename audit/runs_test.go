package audit

import (
	"slices"
	"testing"

	"folio/api"
	"folio/model"
)

// serial fails unless the requests of a run can be put in an order that keeps to the run's own, in which a model tells of each the same: P1, with the model done by the test; and unless Verify says so: P22.2.
func serial(t *testing.T, l []api.Event) {
	t.Helper()
	n := nodesOf(t, l)
	order, ok := Order(n)
	if !ok || len(order) != len(n) {
		t.Fatalf("no order of %d: %v", len(n), order)
	}
	m, last := model.New(), 0 // last: where the request was asked that was asked last of those told
	for _, at := range order {
		if n[at].Answered < last {
			t.Fatalf("node %d is behind what was asked behind its answer", at)
		}
		last = max(last, n[at].Asked)
		want := n[at].Answer
		got, e := m.Do(n[at].Request, want.Stamp, want.Tick)
		want.Snap, want.Tries = 0, 0
		if e != api.OK || spelt(got) != spelt(want) {
			t.Fatalf("node %d: %v %.300s, not %.300s", at, e, spelt(got), spelt(want))
		}
	}
	if sorted := slices.Sorted(slices.Values(order)); len(slices.Compact(sorted)) != len(n) {
		t.Fatalf("not each once: %v", order)
	}
	verifies(t, l)
}

// complete fails unless each answer from Success to Unfit is a node.
func complete(t *testing.T, l []api.Event) {
	t.Helper()
	var places []int
	for at, e := range l {
		if e.Kind == api.EvAnswer && e.Answer.Status >= api.Success && e.Answer.Status <= api.Unfit {
			places = append(places, at)
		}
	}
	n := nodesOf(t, l)
	if !slices.EqualFunc(n, places, func(n Node, at int) bool {
		return n.Answered == at && l[n.Asked].Kind == api.EvAsk && l[n.Asked].Client == n.Client && l[n.Asked].Number == n.Number
	}) {
		t.Fatalf("%d nodes of %v", len(n), places)
	}
}

// The examples of the whole: P1 and P22.2.
func TestWholes(t *testing.T) {
	for _, text := range wholes() {
		l := played(t, text)
		complete(t, l)
		serial(t, l)
	}
}

// Drawn plays of up to eight clients, on stores with much room and little, with ticks and vacuums: P1 and P22.2.
func TestDrawnPlays(t *testing.T) {
	d := &draw{state: 226}
	drawn := map[int]int{}
	moved := 0
	for i := range 3000 {
		l := ran(t, d.play(t, configs()[i%len(configs())], 8, 10, 200))
		complete(t, l)
		serial(t, l)
		for _, e := range l {
			if e.Kind == api.EvAnswer {
				drawn[e.Answer.Status]++
			}
		}
		if order, _ := Order(nodesOf(t, l)); !slices.IsSorted(order) {
			moved++
		}
	}
	for status := api.Success; status <= api.Malformed; status++ {
		if drawn[status] < 100 {
			t.Errorf("status %d was drawn %d times", status, drawn[status])
		}
	}
	if moved < 500 {
		t.Errorf("the order was another than that of the answers in %d", moved)
	}
}

// A play as great as they go: P1 and P22.2.
func TestGreatestPlay(t *testing.T) {
	d := &draw{state: 227}
	p := api.Play{Config: api.Config{Versions: api.MaxVersions, Tracked: api.MaxTracked, Tries: api.MaxTries}}
	for range api.MaxClients {
		var l []api.Request
		for range api.MaxRequests {
			l = append(l, d.request(t, 3))
		}
		p.Clients = append(p.Clients, l)
	}
	for range api.MaxActions {
		p.Actions = append(p.Actions, api.Action{Kind: api.AcPick, N: int64(d.below(api.MaxClients))})
	}
	l := ran(t, p)
	complete(t, l)
	serial(t, l)
	if n := nodesOf(t, l); len(n) < 200 {
		t.Error(len(n))
	}
}

// The events of a run that isn't done yet, from its beginning on: each part has an order: P1.
func TestParts(t *testing.T) {
	d := &draw{state: 228}
	for i := range 100 {
		l := ran(t, d.play(t, configs()[i%len(configs())], 5, 5, 60))
		for end := range l {
			verifies(t, l[:end])
		}
	}
}

// weaves calls yield with all orders of picks in which each client is picked so often, one list after the other.
func weaves(left []int, taken []api.Action, yield func(l []api.Action)) {
	last := true
	for n := range left {
		if left[n] > 0 {
			last = false
			left[n]--
			weaves(left, append(taken, api.Action{Kind: api.AcPick, N: int64(n)}), yield)
			left[n]++
		}
	}
	if last {
		yield(taken)
	}
}

// few are lines that get into each other's way.
func few() []string {
	return []string{
		"create A/a n=1", "ensure A/b n=1 ? n=1", "ensure A/c n=2 ?", "update A/a n=2", "update A/a if 1", "patch A/a n:=3", "delete A/a",
		"read A/b ; update A/a n=1", "search A n=1 ; update A/d n=1", "search A n=2 ; delete A/a", "since A 0", "history A/a 0 ; read A/b",
		"at 9 A/a ; create A/b", "find 9 A n=1 ; update A/a n=4", "number A/a 2 ; update A/b n=1", "once read A/a ; update A/b",
	}
}

// Two clients of a few lines each, woven in all ways in which each takes its snapshot, reads and writes, and is committed: P1 and P22.2.
func TestWovenPairs(t *testing.T) {
	for _, one := range few() {
		for _, two := range few() {
			woven(t, []int{3, 3}, one, two)
		}
	}
}

// Three of them, of which each two may clash: P1 and P22.2.
func TestWovenTriples(t *testing.T) {
	l := []string{
		"read A/a ; update A/b n=1", "read A/b ; update A/c n=1", "read A/c ; update A/a n=2", "search A n=1 ; update A/d n=2",
		"search A n=2 ; create A/e n=1", "read A/a ; read A/c", "delete A/a ; read A/d",
	}
	for i, one := range l {
		for j, two := range l[:i+1] {
			for _, three := range l[:j+1] {
				woven(t, []int{2, 2, 2}, one, two, three)
			}
		}
	}
}

// woven plays a line for each client, behind one that is done ahead of them, in all ways in which a client is picked so often.
func woven(t *testing.T, picks []int, lines ...string) {
	t.Helper()
	p := api.Play{Config: api.Config{Versions: 30, Tracked: 8, Tries: 2}}
	for _, line := range append(slices.Clone(lines), "create A/a n=1 ; create A/c n=3") {
		p.Clients = append(p.Clients, []api.Request{parsed(t, line)})
	}
	for range 4 {
		p.Actions = append(p.Actions, api.Action{Kind: api.AcPick, N: int64(len(lines))})
	}
	laid := len(p.Actions)
	weaves(picks, nil, func(l []api.Action) {
		p.Actions = p.Actions[:laid:laid]
		begun := map[int64]int{}
		for _, a := range l {
			p.Actions = append(p.Actions, a)
			// All of a client's entries but those that two more picks do are done when it is first picked.
			if begun[a.N]++; begun[a.N] == 1 {
				for range len(p.Clients[a.N][0].Entries) + 2 - picks[a.N] {
					p.Actions = append(p.Actions, a)
				}
			}
		}
		serial(t, ran(t, p))
	})
}

// told fails unless something is bad in events, or there is no order of them.
func told(t *testing.T, l []api.Event, what string) {
	t.Helper()
	if bad, ok, e := Verify(l); e != api.OK || ok && len(bad) == 0 {
		t.Fatalf("%s: %v %v %v", what, bad, ok, e)
	}
}

// turned turns each reply of each node with Success of a run, in all ways of P22.3, and fails unless it is told; how many is answered.
func turned(t *testing.T, l []api.Event) (ticks, kinds int) {
	t.Helper()
	for at := range l {
		a := &l[at].Answer
		if l[at].Kind != api.EvAnswer || a.Status != api.Success {
			continue
		}
		for i := range a.Replies {
			r := &a.Replies[i]
			if len(r.List) > 0 {
				tick := &r.List[0].Version.Tick
				was := *tick
				for _, other := range []int64{was + 1, was - 1, -was - 1, was ^ 1<<40, was ^ -1<<63} {
					*tick = other
					told(t, l, "a tick")
					ticks++
				}
				*tick = was
				continue
			}
			was := r.Kind
			for kind := -1; kind <= api.RepList+1; kind++ {
				if r.Kind = kind; kind != was {
					told(t, l, "a kind")
					kinds++
				}
			}
			r.Kind = was
		}
	}
	return ticks, kinds
}

// What was turned is told, in the examples of the whole and in drawn plays: P22.3.
func TestTurned(t *testing.T) {
	ticks, kinds := 0, 0
	turn := func(l []api.Event) {
		more, others := turned(t, l)
		ticks, kinds = ticks+more, kinds+others
		verifies(t, l)
	}
	for _, text := range wholes() {
		turn(played(t, text))
	}
	d := &draw{state: 229}
	for i := range 300 {
		turn(ran(t, d.play(t, configs()[i%len(configs())], 5, 5, 80)))
	}
	if ticks < 3000 || kinds < 3000 {
		t.Error(ticks, kinds)
	}
}
