package audit

import (
	"slices"

	"folio/api"
	"folio/model"
	"folio/name"
	"folio/pred"
)

// plainProper is whether events are proper: each client's by themselves.
func plainProper(l []api.Event) bool {
	for _, e := range l {
		if e.Kind != api.EvAsk && e.Kind != api.EvAnswer && e.Kind != api.EvTick && e.Kind != api.EvVacuum {
			return false
		}
		if (e.Kind == api.EvAsk || e.Kind == api.EvAnswer) && (e.Client < 0 || e.Client > api.MaxClients-1) {
			return false
		}
	}
	for client := range api.MaxClients {
		its := slices.DeleteFunc(slices.Clone(l), func(e api.Event) bool {
			return e.Client != client || e.Kind != api.EvAsk && e.Kind != api.EvAnswer
		})
		for i, e := range its {
			kind := []int{api.EvAsk, api.EvAnswer}[i%2]
			if e.Kind != kind || e.Number != i/2 || e.Number > api.MaxRequests-1 {
				return false
			}
		}
	}
	return true
}

// plainWrite is what one reply tells to be written.
type plainWrite struct {
	key   api.Key
	live  bool
	value []api.Field
}

func plainWrites(n Node) []plainWrite {
	var l []plainWrite
	for _, r := range n.Answer.Replies {
		if slices.Contains([]int{api.RepMade, api.RepPut, api.RepDropped}, r.Kind) && len(r.List) > 0 {
			f := r.List[0]
			l = append(l, plainWrite{f.Key, f.Version.Live, f.Version.Value})
		}
	}
	return l
}

// plainLast is the write of a key that counts, if there is one.
func plainLast(n Node, k api.Key) (w plainWrite, found bool) {
	for _, other := range plainWrites(n) {
		if other.key == k {
			w, found = other, true
		}
	}
	return w, found
}

// plainWas is the write of a key with the greatest stamp below a node's, of several of one stamp the first one.
func plainWas(all []Node, n Node, k api.Key) plainWrite {
	var was plainWrite
	var stamp uint64
	found := false
	for _, m := range all {
		w, writes := plainLast(m, k)
		if writes && m.Answer.Stamp < n.Answer.Stamp && (!found || m.Answer.Stamp > stamp) {
			was, stamp, found = w, m.Answer.Stamp, true
		}
	}
	return was
}

func plainNodes(l []api.Event) ([]Node, api.Errno) {
	if !plainProper(l) {
		return nil, api.ErrArg
	}
	var all []Node
	for i, e := range l {
		if e.Kind != api.EvAnswer || !slices.Contains([]int{api.Success, api.Exists, api.Mismatch, api.Absent, api.Several, api.Unfit}, e.Answer.Status) {
			continue
		}
		asked := slices.IndexFunc(l, func(a api.Event) bool {
			return a.Kind == api.EvAsk && a.Client == e.Client && a.Number == e.Number
		})
		all = append(all, Node{e.Client, e.Number, asked, i, l[asked].Request, e.Answer, e.Marks, nil})
	}
	for i, n := range all {
		var keys []api.Key
		for _, w := range plainWrites(n) {
			keys = append(keys, w.key)
		}
		for _, k := range name.Sort(keys) {
			is, _ := plainLast(n, k)
			was := plainWas(all, n, k)
			c := api.Change{Key: k, WasLive: was.live, IsLive: is.live}
			if was.live {
				c.Was = was.value
			}
			if is.live {
				c.Is = is.value
			}
			all[i].Changes = append(all[i].Changes, c)
		}
	}
	return all, api.OK
}

// plainHits is whether one of changes hits marks, spelt out from chapter 12.
func plainHits(m api.Marks, l []api.Change) bool {
	for _, c := range l {
		for _, k := range m.Keys {
			if k == c.Key {
				return true
			}
		}
		for _, r := range m.Ranges {
			if r.Type == c.Key.Type && (c.WasLive && pred.Match(r.Pred, c.Was) || c.IsLive && pred.Match(r.Pred, c.Is)) {
				return true
			}
		}
	}
	return false
}

func plainAhead(a, b Node) bool {
	if a.Answered < b.Asked {
		return true
	}
	if len(a.Changes) > 0 && !(a.Answer.Stamp > b.Answer.Snap) {
		return true
	}
	return b.Answer.Stamp > a.Answer.Snap && plainHits(a.Marks, b.Changes)
}

func plainOrder(l []Node) ([]int, bool) {
	ahead := make([][]bool, len(l))
	for a := range l {
		ahead[a] = make([]bool, len(l))
		for b := range l {
			ahead[a][b] = a != b && plainAhead(l[a], l[b])
		}
	}
	var order []int
	for len(order) < len(l) {
		next := -1
		for b := len(l) - 1; b >= 0; b-- {
			stuck := slices.Contains(order, b)
			for a := range l {
				stuck = stuck || ahead[a][b] && !slices.Contains(order, a)
			}
			if !stuck {
				next = b
			}
		}
		if next < 0 {
			return nil, false
		}
		order = append(order, next)
	}
	return order, true
}

func plainVerify(l []api.Event) ([]int, bool, api.Errno) {
	all, e := plainNodes(l)
	if e != api.OK {
		return nil, false, e
	}
	order, ok := plainOrder(all)
	if !ok {
		return nil, false, api.OK
	}
	m := model.New()
	fine := make([]bool, len(all))
	for _, i := range order {
		want := all[i].Answer
		got, e := m.Do(all[i].Request, want.Stamp, want.Tick)
		want.Snap, want.Tries = 0, 0
		fine[i] = e == api.OK && spelt(got) == spelt(want)
	}
	var bad []int
	for i := range fine {
		if !fine[i] {
			bad = append(bad, i)
		}
	}
	return bad, true, api.OK
}
