package audit

import (
	"cmp"
	"maps"
	"slices"

	"folio/api"
	"folio/name"
)

// proper says whether events are proper.
func proper(l []api.Event) bool {
	var had [api.MaxClients]int // of each client, how many asks and answers there were
	for _, e := range l {
		if e.Kind == api.EvTick || e.Kind == api.EvVacuum {
			continue
		}
		if e.Client < 0 || e.Client >= api.MaxClients {
			return false
		}
		// A kind that isn't one of api is none that could be next, either.
		kind, number := api.EvAsk, had[e.Client]/2
		if had[e.Client]%2 == 1 {
			kind = api.EvAnswer
		}
		if e.Kind != kind || e.Number != number || number >= api.MaxRequests {
			return false
		}
		had[e.Client]++
	}
	return true
}

// answered are the nodes of proper events, in the order of their answers; their changes don't say yet what the keys were.
func answered(l []api.Event) []Node {
	var nodes []Node
	var asked [api.MaxClients]int // of each client, where its last ask stands
	for at, e := range l {
		if e.Kind == api.EvAsk {
			asked[e.Client] = at
		}
		if e.Kind == api.EvAnswer && e.Answer.Status >= api.Success && e.Answer.Status <= api.Unfit {
			n := Node{Client: e.Client, Number: e.Number, Asked: asked[e.Client], Answered: at}
			n.Request, n.Answer, n.Marks = ownRequest(l[n.Asked].Request), ownAnswer(e.Answer), ownMarks(e.Marks)
			n.Changes = changes(e.Answer.Replies)
			nodes = append(nodes, n)
		}
	}
	return nodes
}

// changes are what replies tell to be written, in order of keys; of two writes of one key the last one counts.
func changes(replies []api.Reply) []api.Change {
	last := map[api.Key]api.Version{}
	for _, r := range replies {
		if writes(r.Kind) && len(r.List) > 0 {
			last[r.List[0].Key] = r.List[0].Version
		}
	}
	var l []api.Change
	for _, k := range name.Sort(slices.Collect(maps.Keys(last))) {
		c := api.Change{Key: k}
		if v := last[k]; v.Live {
			c.IsLive, c.Is = true, own(v.Value, ownField)
		}
		l = append(l, c)
	}
	return l
}

// writes says whether a reply of a kind tells of a write.
func writes(kind int) bool {
	return kind == api.RepMade || kind == api.RepPut || kind == api.RepDropped
}

// tellWas puts into each change of a key what the key was: what is written with the next lower stamp, of several of one stamp the first one.
func tellWas(l []Node, list []written) {
	// The list is in order of places, and one of each stamp stays so.
	slices.SortStableFunc(list, func(a, b written) int {
		return cmp.Compare(l[a.node].Answer.Stamp, l[b.node].Answer.Stamp)
	})
	first, below := 0, -1 // where those of this stamp begin, and those of the next lower one
	for i, w := range list {
		if l[w.node].Answer.Stamp != l[list[first].node].Answer.Stamp {
			first, below = i, first
		}
		if below >= 0 {
			c, was := w.change(l), list[below].change(l)
			c.WasLive, c.Was = was.IsLive, own(was.Is, ownField)
		}
	}
}
