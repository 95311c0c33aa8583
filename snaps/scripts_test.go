package snaps

import (
	"testing"

	"folio/api"
)

// plain is a registry spelt out: all that were ever opened stand in a list, the one with the id k at k-1.
type plain struct {
	floor  uint64
	stamps []uint64
	closed []bool
}

func (p plain) open(id int) bool { return id >= 1 && id <= len(p.stamps) && !p.closed[id-1] }

// below is whether one that is open has a stamp below f.
func (p plain) below(f uint64) bool {
	for k, s := range p.stamps {
		if !p.closed[k] && s < f {
			return true
		}
	}
	return false
}

// oldest is the least id that is open, or 0.
func (p plain) oldest() int {
	for id := range len(p.stamps) + 1 {
		if p.open(id) {
			return id
		}
	}
	return 0
}

// call is one call of a script: Open or Raise with a stamp, or Close with an id.
type call struct {
	kind rune // 'o', 'r', 'c'
	n    int
}

// calls are all that scripts are made of.
func calls() []call {
	var l []call
	for n := range 4 {
		l = append(l, call{'o', n}, call{'r', n}, call{'c', n})
	}
	return append(l, call{'c', -1}, call{'r', 4})
}

// does does one call and fails unless it answers what p says; p is then as it is behind the call.
func (c call) does(t *testing.T, r *Registry, p *plain) {
	f := uint64(c.n)
	switch c.kind {
	case 'o':
		if f < p.floor {
			opens(t, r, f, 0, api.ErrOld)
			return
		}
		opens(t, r, f, len(p.stamps)+1, api.OK)
		p.stamps, p.closed = append(p.stamps, f), append(p.closed, false)
	case 'c':
		was := p.open(c.n)
		closes(t, r, c.n, was)
		if was {
			p.closed[c.n-1] = true
		}
	case 'r':
		switch {
		case f < p.floor:
			raises(t, r, f, api.ErrOld, p.floor)
		case p.below(f):
			raises(t, r, f, api.ErrArg, p.floor)
		default:
			p.floor = f
			raises(t, r, f, api.OK, p.floor)
		}
	}
}

// asks fails unless all that a registry tells is what p says, and nobody is below the floor.
func asks(t *testing.T, r *Registry, p plain) {
	open := 0
	for id := -1; id <= len(p.stamps)+1; id++ {
		if !p.open(id) {
			isOpen(t, r, id, 0, false)
			continue
		}
		open++
		isOpen(t, r, id, p.stamps[id-1], true)
		if s, _ := r.Stamp(id); s < r.Floor() {
			t.Error("below the floor:", id)
		}
	}
	counts(t, r, open)
	for now := range uint64(6) {
		want := now
		for want > 0 && p.below(want) {
			want--
		}
		least(t, r, now, want)
	}
	if r.Floor() != p.floor {
		t.Errorf("Floor: %d; want %d", r.Floor(), p.floor)
	}
}

// replays is a registry behind a script's calls.
func replays(t *testing.T, script []call) (*Registry, plain) {
	r, p := New(), plain{}
	for _, c := range script {
		c.does(t, r, &p)
	}
	return r, p
}

// TestScripts: every script of up to four calls answers as spelt out, at each of its ends.
func TestScripts(t *testing.T) {
	var on func(script []call)
	on = func(script []call) {
		r, p := replays(t, script)
		asks(t, r, p)
		if t.Failed() {
			t.Fatal(script)
		}
		if len(script) == 4 {
			return
		}
		for _, c := range calls() {
			on(append(script[:len(script):len(script)], c))
		}
	}
	on(nil)
}

// TestNobodyBelow: behind every script, Raise(Least(now)) is OK unless Least(now) is below the floor, and no Raise lets the floor fall.
func TestNobodyBelow(t *testing.T) {
	var on func(script []call)
	on = func(script []call) {
		for now := range uint64(6) {
			r, p := replays(t, script)
			floor, to := r.Floor(), r.Least(now)
			want, behind := api.OK, to
			if to < floor {
				want, behind = api.ErrOld, floor
			}
			raises(t, r, to, want, behind)
			p.floor = max(floor, to)
			asks(t, r, p)
		}
		if t.Failed() {
			t.Fatal(script)
		}
		if len(script) == 3 {
			return
		}
		for _, c := range calls() {
			on(append(script[:len(script):len(script)], c))
		}
	}
	on(nil)
}

// TestLongScript: many calls in a row, with many open at a time.
func TestLongScript(t *testing.T) {
	r, p := New(), plain{}
	seed := uint32(1)
	next := func(n int) int {
		seed = seed*1664525 + 1013904223
		return int(seed>>8) % n
	}
	for k := range 3000 {
		switch next(8) {
		case 0, 1, 2:
			call{'o', k/20 + next(6)}.does(t, r, &p)
		case 3:
			call{'c', max(0, len(p.stamps)-next(30))}.does(t, r, &p)
		case 4, 5:
			call{'c', p.oldest() + next(2)}.does(t, r, &p)
		case 6:
			call{'r', max(0, k/20+next(6)-2)}.does(t, r, &p)
		case 7:
			call{'r', int(r.Least(uint64(k / 20)))}.does(t, r, &p)
		}
		if k%100 == 0 {
			asksFew(t, r, p)
		}
		if t.Failed() {
			t.Fatal(k)
		}
	}
	asks(t, r, p)
	if p.floor == 0 || len(p.stamps) < 100 || r.Count() == 0 {
		t.Error("a script that does little", p.floor, len(p.stamps), r.Count())
	}
}

// asksFew is asks for the ids that were opened last.
func asksFew(t *testing.T, r *Registry, p plain) {
	for id := max(1, len(p.stamps)-40); id <= len(p.stamps); id++ {
		if s, open := r.Stamp(id); open != p.open(id) || open && (s != p.stamps[id-1] || s < p.floor) {
			t.Error(id, s, open)
		}
	}
}
