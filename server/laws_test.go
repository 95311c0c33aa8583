package server

import (
	"fmt"
	"slices"
	"strings"
	"testing"

	"folio/api"
	"folio/op"
)

// watch is a run that is looked at while it goes on.
type watch struct {
	t      *testing.T
	p      api.Play
	s      *Server
	events []api.Event
	floors []uint64 // behind each event the floor
}

// keysOf are all keys that drawn requests name.
func keysOf() []api.Key {
	var l []api.Key
	for _, typ := range []string{"A", "B"} {
		for _, id := range []string{"a", "b", "c", "d", "e"} {
			l = append(l, api.Key{Type: typ, ID: id})
		}
	}
	return l
}

// stored is what is visible of each key, at each stamp from one on. (Ahead of the configuration's first stamp there is nothing.)
func (w *watch) stored(from uint64) []api.Found {
	s := w.s.Store()
	var l []api.Found
	for _, k := range keysOf() {
		for t := max(from, w.p.Config.First); ; t++ {
			if v, there := s.Visible(k, t); there {
				l = append(l, api.Found{Key: k, Version: v})
			}
			if t >= s.Last() {
				break
			}
		}
	}
	return l
}

// watched does a play, and looks at each of its actions.
func watched(t *testing.T, p api.Play) *watch {
	t.Helper()
	w := &watch{t: t, p: p, s: made(t, p)}
	defer w.s.Close()
	for _, a := range p.Actions {
		w.do(a)
	}
	// What Rest does, so that each step is looked at.
	for w.s.Live() > 0 {
		for n := range p.Clients {
			w.do(pick(int64(n)))
		}
	}
	return w
}

// do does an action, and fails if it does what none may.
func (w *watch) do(a api.Action) {
	w.t.Helper()
	s := w.s.Store()
	was, before := stateOf(s), []api.Found(nil)
	if a.Kind == api.AcVacuum {
		before = w.stored(0)
	}
	told := w.s.Do(a)
	now := stateOf(s)
	for _, e := range told {
		w.events, w.floors = append(w.events, e), append(w.floors, now.floor)
		w.full(e, was, now)
	}
	if now.count > w.p.Config.Versions {
		w.t.Fatalf("there are %d versions:\n%s", now.count, tell(w.events))
	}
	if now.floor != was.floor && a.Kind != api.AcVacuum || now.floor < was.floor {
		w.t.Fatalf("the floor is %d behind %d:\n%s", now.floor, was.floor, tell(w.events))
	}
	if a.Kind == api.AcVacuum {
		w.pruned(before)
	}
}

// full fails if an answer that is Full has changed something, or there was room: P6.
func (w *watch) full(e api.Event, was, now state) {
	w.t.Helper()
	if e.Kind != api.EvAnswer || e.Answer.Status != api.Full {
		return
	}
	most := 0
	for _, entry := range w.p.Clients[e.Client][e.Number].Entries {
		if op.Writes(entry) {
			most++
		}
	}
	if was.last < api.MaxStamp && was.count+most <= w.p.Config.Versions {
		w.t.Fatalf("there was room:\n%s", tell(w.events))
	}
	if now.last != was.last || now.count != was.count {
		w.t.Fatalf("Full leaves a trace:\n%s", tell(w.events))
	}
}

// pruned fails if what was visible at the floor or above, ahead of a vacuum, isn't behind it: P4.
func (w *watch) pruned(before []api.Found) {
	w.t.Helper()
	s := w.s.Store()
	now := w.stored(s.Floor())
	for _, f := range now {
		if !slices.ContainsFunc(before, func(o api.Found) bool { return tellFind(o) == tellFind(f) }) {
			w.t.Fatalf("%s was not there:\n%s", tellFind(f), tell(w.events))
		}
	}
	for _, f := range before {
		if v, there := s.Visible(f.Key, max(s.Floor(), f.Version.Stamp)); !there || v.Stamp < f.Version.Stamp || v.Stamp == f.Version.Stamp && tellFind(api.Found{Key: f.Key, Version: v}) != tellFind(f) {
			w.t.Fatalf("%s is gone:\n%s", tellFind(f), tell(w.events))
		}
	}
}

// writes calls f with each write of each request that was answered Success.
func (w *watch) writes(f func(e api.Event, place int, written api.Found)) {
	for _, e := range w.events {
		for i, r := range e.Answer.Replies {
			if writesOf(w.p.Clients[e.Client][e.Number].Entries[i], r) {
				f(e, i, r.List[0])
			}
		}
	}
}

// allOrNothing fails unless what was written is there, all at its request's stamp, and nothing else ever is seen: P2. (What is written has a text in it that tells whose it is.)
func (w *watch) allOrNothing() {
	w.t.Helper()
	owners, dead := map[string]string{}, map[string]int{}
	w.writes(func(e api.Event, place int, f api.Found) {
		if a := e.Answer; a.Status != api.Success || a.Stamp == 0 || f.Version.Stamp != a.Stamp || f.Version.Tick != a.Tick {
			w.t.Fatalf("%s:\n%s", tellFind(f), tell(w.events))
		}
		if !f.Version.Live {
			dead[tellFind(f)]++
			return
		}
		owners[fmt.Sprintf("w=%d.%d.%d", e.Client, e.Number, place)] = tellFind(f)
	})
	whose := func(f api.Found) {
		words := tellFind(f)
		if !f.Version.Live {
			if dead[words] != 1 {
				w.t.Fatalf("%s is nobody's:\n%s", words, tell(w.events))
			}
		} else if tag := words[strings.LastIndex(words, " ")+1:]; owners[tag] != words {
			w.t.Fatalf("%s is not %s:\n%s", words, owners[tag], tell(w.events))
		}
	}
	for _, e := range w.events {
		for _, r := range e.Answer.Replies {
			for _, f := range r.List {
				whose(f)
			}
		}
	}
	for _, f := range w.stored(0) {
		whose(f)
	}
	w.present()
}

// present fails unless what was written is in the store, as far as no vacuum let it go: P2.
func (w *watch) present() {
	w.t.Helper()
	s := w.s.Store()
	w.writes(func(_ api.Event, _ int, f api.Found) {
		v, _ := s.Visible(f.Key, f.Version.Stamp)
		if f.Version.Stamp >= s.Floor() && tellFind(api.Found{Key: f.Key, Version: v}) != tellFind(f) {
			w.t.Fatalf("%s isn't there:\n%s", tellFind(f), tell(w.events))
		}
	})
}

// snapshots fails if a snapshot was below a floor while it was open: P4.
func (w *watch) snapshots() {
	w.t.Helper()
	for i, e := range w.events {
		if e.Kind == api.EvAnswer && e.Answer.Tries > 0 && e.Answer.Snap < w.floors[i] {
			w.t.Fatalf("a snapshot below the floor %d:\n%s", w.floors[i], tell(w.events[:i+1]))
		}
	}
}

// pasts fails unless reads of the past are Past below the floor alone, and never told below it: P4.
func (w *watch) pasts() {
	w.t.Helper()
	asked := map[[2]int]uint64{}
	for i, e := range w.events {
		who := [2]int{e.Client, e.Number}
		if e.Kind == api.EvAsk {
			asked[who] = w.floors[i]
		}
		if e.Kind != api.EvAnswer || e.Answer.Status != api.Past && e.Answer.Status != api.Success {
			continue
		}
		for at, entry := range w.p.Clients[e.Client][e.Number].Entries {
			if entry.Kind < api.EnHistory {
				continue
			}
			if e.Answer.Status == api.Success && entry.Stamp < asked[who] || e.Answer.Status == api.Past && e.Answer.At == at && entry.Stamp >= w.floors[i] {
				w.t.Fatalf("a read of %d, the floor was %d, then %d:\n%s", entry.Stamp, asked[who], w.floors[i], tell(w.events[:i+1]))
			}
		}
		if kind := w.p.Clients[e.Client][e.Number].Entries[e.Answer.At].Kind; e.Answer.Status == api.Past && kind < api.EnHistory && kind != api.EnNumber {
			w.t.Fatalf("no read of the past:\n%s", tell(w.events[:i+1]))
		}
	}
}

// numbers fails unless each key's versions have the numbers 1, 2, 3, .. by their stamps, no stamp is given twice, and ticks never fall: P7.
func (w *watch) numbers() {
	w.t.Helper()
	last, ticks, stamps := map[api.Key]int{}, int64(0), w.p.Config.First
	w.writes(func(e api.Event, _ int, f api.Found) {
		// Answers are told in the order of their stamps.
		if last[f.Key]++; f.Version.Number != last[f.Key] || f.Version.Tick < ticks || f.Version.Stamp < stamps {
			w.t.Fatalf("%s:\n%s", tellFind(f), tell(w.events))
		}
		ticks, stamps = f.Version.Tick, f.Version.Stamp
	})
	given := map[uint64]int{}
	for _, e := range w.events {
		if a := e.Answer; a.Stamp != 0 {
			if given[a.Stamp]++; given[a.Stamp] > 1 || a.Stamp != w.p.Config.First+uint64(len(given)) {
				w.t.Fatalf("the stamp %d:\n%s", a.Stamp, tell(w.events))
			}
		}
	}
	if s := w.s.Store(); s.Last() != w.p.Config.First+uint64(len(given)) {
		w.t.Fatalf("the last stamp is %d:\n%s", s.Last(), tell(w.events))
	}
}

// emptied fails unless a vacuum with nothing open leaves the version visible at the floor alone: P6.
func (w *watch) emptied() {
	w.t.Helper()
	s := w.s.Store()
	there := 0
	for _, k := range keysOf() {
		if _, is := s.Visible(k, s.Last()); is {
			there++
		}
	}
	w.do(vacuum())
	if s.Open() != 0 || s.Count() != there || s.Floor() != s.Last() {
		w.t.Fatalf("%d versions of %d keys, the floor is %d:\n%s", s.Count(), there, s.Floor(), tell(w.events))
	}
}

// lawful fails unless a play's run keeps to what is promised of every one: P1, P2, P4, P6 and P7.
func lawful(t *testing.T, p api.Play) {
	t.Helper()
	w := watched(t, p)
	ordered(t, p, w.events)
	serial(t, w.events)
	w.allOrNothing()
	w.snapshots()
	w.pasts()
	w.numbers()
	w.emptied()
	if got := ran(t, p); spelt(got) != spelt(w.events[:len(got)]) {
		t.Fatalf("Run: %s, not\n%s", tell(got), tell(w.events))
	}
}

// Drawn runs keep to what is promised of every one: P1, P2, P4, P6 and P7.
func TestLaws(t *testing.T) {
	d := &draw{state: 197}
	for i := range 900 {
		lawful(t, d.play(t, configs()[i%len(configs())], 8, 6, 160))
	}
}

// Long runs, of as many clients and requests as there can be, do so too: P1, P2, P4, P6 and P7.
func TestLongRuns(t *testing.T) {
	d := &draw{state: 198}
	for i := range 6 {
		p := api.Play{Config: configs()[i], Clients: make([][]api.Request, api.MaxClients)}
		for n := range p.Clients {
			for number := range api.MaxRequests {
				p.Clients[n] = append(p.Clients[n], d.request(t, n, number, 3))
			}
		}
		for range 1000 {
			p.Actions = append(p.Actions, d.action(api.MaxClients))
		}
		lawful(t, p)
	}
}

// Of a type whose resources are made by ensures with one predicate alone, which their own values meet, never two are live together: P3.
func TestOneOfAKind(t *testing.T) {
	d := &draw{state: 193}
	made, found := 0, 0
	for i := range 1500 {
		p := api.Play{Config: configs()[i%len(configs())], Clients: make([][]api.Request, 1+d.below(8))}
		kind := d.of("m=1", "m?", "m^1", "q-", "m=1 q-")
		for n := range p.Clients {
			for range d.below(6) {
				p.Clients[n] = append(p.Clients[n], d.ofAKind(t, kind))
			}
		}
		for range d.below(200) {
			p.Actions = append(p.Actions, d.action(len(p.Clients)))
		}
		l := ran(t, p)
		serial(t, l)
		m, f := onlyOne(t, p, l)
		made += m
		found += f
	}
	if made < 1000 || found < 1000 {
		t.Error(made, found)
	}
}

// ofAKind is a request that makes none of the type K but by an ensure with the predicate.
func (d *draw) ofAKind(t *testing.T, kind string) api.Request {
	t.Helper()
	var entries []string
	for _, id := range []string{"a", "b", "c", "d"} {
		switch d.below(7) {
		case 0, 1:
			entries = append(entries, "ensure K/"+id+d.of(" m=1", " m=1 n=2", " m=1 r=*@x", " m=1 m=2")+" ? "+kind)
		case 2:
			entries = append(entries, "delete K/"+id)
		case 3:
			entries = append(entries, d.of("read K/"+id, "search K", "search K m=1", "update L/"+id, "since K 0", "read L/a"))
		}
	}
	if len(entries) == 0 {
		return parsed(t, "ensure @x K/e m=1 ? "+kind)
	}
	return parsed(t, d.of("", "", "once ")+strings.Join(entries, " ; "))
}

// onlyOne fails if two of the type K were ever live together; told are how often one was made, and found.
func onlyOne(t *testing.T, p api.Play, l []api.Event) (made, found int) {
	t.Helper()
	live := map[api.Key]int{}
	for i, e := range l {
		// Answers are told in the order of their stamps.
		for j, r := range e.Answer.Replies {
			entry := p.Clients[e.Client][e.Number].Entries[j]
			if entry.Key.Type != "K" || !op.Writes(entry) {
				continue
			}
			switch r.Kind {
			case api.RepMade:
				live[r.List[0].Key] = 1
				made++
			case api.RepDropped:
				delete(live, r.List[0].Key)
			case api.RepFound:
				found++
			}
		}
		if len(live) > 1 {
			t.Fatalf("%v are live:\n%s", live, tell(l[:i+1]))
		}
	}
	return made, found
}

// Whoever goes on alone comes to its end, whatever the others were at; and what it begins then is never Conflict nor Tired: P5.
func TestOthersStop(t *testing.T) {
	d := &draw{state: 195}
	clashed := 0
	for i := range 1500 {
		p := d.play(t, configs()[i%len(configs())], 8, 8, 100)
		s := made(t, p)
		for _, a := range p.Actions {
			s.Do(a)
		}
		for n := range p.Clients {
			clashed += endsAlone(t, p, s, n)
		}
		if s.Live() != 0 || s.Store().Open() != 0 {
			t.Fatal(s.Live(), s.Store().Open())
		}
		s.Close()
	}
	if clashed < 20 {
		t.Error(clashed)
	}
}

// endsAlone picks one client till it has ended, and tells how many of its answers were Conflict or Tired; only the first one may be, which may have been begun ahead.
func endsAlone(t *testing.T, p api.Play, s *Server, n int) int {
	t.Helper()
	left := 0
	for _, r := range p.Clients[n] {
		left += 1 + 8*(2*len(r.Entries)+1)
	}
	clashed, asked := 0, map[int]int{}
	live := s.Live()
	for s.Live() == live && left >= 0 {
		for _, e := range s.Do(pick(int64(n))) {
			if e.Kind == api.EvAsk {
				asked[e.Number]++
			} else if e.Answer.Status == api.Conflict || e.Answer.Status == api.Tired {
				if clashed++; asked[e.Number] > 0 {
					t.Fatalf("begun alone: %s", tell([]api.Event{e}))
				}
			}
		}
		left--
	}
	return clashed
}
