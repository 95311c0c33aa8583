package server

import (
	"runtime"
	"slices"
	"sync"
	"testing"

	"folio/api"
)

// drawnPlays are plays, and what is told of each when it is run by itself.
func drawnPlays(t *testing.T, state uint64, n int) (plays []api.Play, told []string) {
	t.Helper()
	d := &draw{state: state}
	for i := range n {
		p := d.play(t, configs()[i%len(configs())], 8, 6, 120)
		plays = append(plays, p)
		told = append(told, spelt(ran(t, p)))
	}
	return plays, told
}

// The events hang on the play alone: not on how goroutines run, nor on what is run beside it: P19.3.
func TestOneOutcome(t *testing.T) {
	plays, told := drawnPlays(t, 199, 60)
	defer runtime.GOMAXPROCS(runtime.GOMAXPROCS(0))
	for _, processors := range []int{1, 2, 16} {
		runtime.GOMAXPROCS(processors)
		var all sync.WaitGroup
		for worker := range 12 {
			all.Add(1)
			go func() {
				defer all.Done()
				for i := range plays {
					// Each its own way through them, so that unlike ones run side by side.
					at := (i*7 + worker*5) % len(plays)
					if l, e := Run(plays[at]); e != api.OK || spelt(l) != told[at] {
						t.Errorf("play %d: %v, %s, not\n%s", at, e, tell(l), told[at])
						return
					}
				}
			}()
		}
		all.Wait()
	}
}

// Run is New, each action's Do, Rest and Close, though they are called by many goroutines, one behind the other: P19.3.
func TestOneOutcomeByTurns(t *testing.T) {
	plays, told := drawnPlays(t, 200, 40)
	elsewhere := func(f func()) {
		done := make(chan struct{})
		go func() {
			defer close(done)
			runtime.Gosched()
			f()
		}()
		<-done
	}
	for i, p := range plays {
		var s *Server
		var l []api.Event
		elsewhere(func() { s, _ = New(p.Config, p.Clients) })
		for _, a := range p.Actions {
			elsewhere(func() { l = append(l, s.Do(a)...) })
		}
		elsewhere(func() { l = append(l, s.Rest()...) })
		elsewhere(func() { s.Close() })
		if spelt(l) != told[i] {
			t.Fatalf("%s, not\n%s", spelt(l), told[i])
		}
	}
}

// Servers that are driven by turns know nothing of each other: P19.3.
func TestOneOutcomeEach(t *testing.T) {
	plays, told := drawnPlays(t, 201, 30)
	servers := make([]*Server, len(plays))
	events := make([][]api.Event, len(plays))
	most := 0
	for i, p := range plays {
		servers[i] = made(t, p)
		most = max(most, len(p.Actions))
	}
	for place := range most {
		for i, p := range plays {
			if place < len(p.Actions) {
				events[i] = append(events[i], servers[i].Do(p.Actions[place])...)
			}
		}
	}
	for i := range plays {
		if events[i] = append(events[i], servers[i].Rest()...); spelt(events[i]) != told[i] {
			t.Fatalf("%s, not\n%s", spelt(events[i]), told[i])
		}
	}
}

// Actions that do nothing, laid between others, change no event; a client that has no request, laid behind the others, neither: P19.3.
func TestIdleChangesNothing(t *testing.T) {
	plays, told := drawnPlays(t, 202, 60)
	for i, p := range plays {
		var more []api.Action
		for place, a := range p.Actions {
			more = append(more, api.Action{Kind: 4 + place}, pick(int64(len(p.Clients))), a, api.Action{N: 1}, pick(-1))
		}
		p.Actions = more
		p.Clients = append(slices.Clone(p.Clients), nil)[:min(len(p.Clients)+1, api.MaxClients)]
		if l := ran(t, p); spelt(l) != told[i] {
			t.Fatalf("%s, not\n%s", spelt(l), told[i])
		}
	}
}
