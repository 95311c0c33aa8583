package track

import (
	"slices"
	"testing"

	"folio/api"
)

// plain is a tracker spelt out: all that were ever added stand in a list, beside what became of them.
type plain struct {
	most int
	all  []api.Done
	fate []rune // ' ': it is there, 'd': it was dropped, 'm': it went, since there were too many
}

// there are the places of those that are there.
func (p plain) there() []int {
	var l []int
	for i, f := range p.fate {
		if f == ' ' {
			l = append(l, i)
		}
	}
	return l
}

func (p plain) list() []api.Done {
	var l []api.Done
	for _, i := range p.there() {
		l = append(l, p.all[i])
	}
	return l
}

func (p plain) summary() uint64 {
	var s uint64
	for i, f := range p.fate {
		if f == 'm' {
			s = max(s, p.all[i].Stamp)
		}
	}
	return s
}

// greatest is the greatest stamp of all that were ever added.
func (p plain) greatest() uint64 {
	var s uint64
	for _, d := range p.all {
		s = max(s, d.Stamp)
	}
	return s
}

func (p *plain) add(d api.Done) api.Errno {
	if n := len(p.all); n > 0 && d.Stamp < p.all[n-1].Stamp {
		return api.ErrOld
	}
	p.all, p.fate = append(p.all, d), append(p.fate, ' ')
	if l := p.there(); len(l) > p.most {
		p.fate[l[0]] = 'm'
	}
	return api.OK
}

func (p *plain) drop(least uint64) int {
	n := 0
	for _, i := range p.there() {
		if p.all[i].Stamp <= least {
			p.fate[i] = 'd'
			n++
		}
	}
	return n
}

// changed says whether changes have one of the keys that were read; the scripts' marks have keys alone.
func changed(m api.Marks, l []api.Change) bool {
	for _, k := range m.Keys {
		for _, c := range l {
			if c.Key == k {
				return true
			}
		}
	}
	return false
}

// check counts those that the words name, and says then what they come to.
func (p plain) check(snap uint64, m api.Marks, l []api.Change) (bool, api.Errno) {
	at, out, from := 0, 0, 0
	for i, d := range p.all {
		if p.fate[i] != ' ' || d.Stamp <= snap {
			continue
		}
		if changed(m, d.Changes) {
			at++
			if d.Out {
				out++
			}
		}
		if changed(d.Marks, l) {
			from++
		}
	}
	if snap < p.summary() || out > 0 || at > 0 && from > 0 {
		return false, api.ErrClash
	}
	return at > 0, api.OK
}

// call is one call of a script: an Add, or a Drop.
type call struct {
	drops bool
	least uint64
	d     api.Done
}

// does does one call and fails unless it answers what p says; p is then as it is behind the call.
func (c call) does(t *testing.T, r *Tracker, p *plain) {
	if c.drops {
		drops(t, r, c.least, p.drop(c.least))
		return
	}
	adds(t, r, c.d, p.add(c.d))
}

// calls are all that scripts are made of.
func calls() []call {
	var l []call
	for s := range uint64(3) {
		l = append(l, call{drops: true, least: s})
		for _, out := range []bool{false, true} {
			for _, d := range []api.Done{{}, {Marks: read(x), Changes: write(y)}, {Marks: read(y), Changes: write(x, z)}, {Marks: read(z, x)}, {Changes: write(x)}} {
				d.Stamp, d.Out = s, out
				l = append(l, call{d: d})
			}
		}
	}
	return l
}

// try is what a Check is asked of.
type try struct {
	m api.Marks
	l []api.Change
}

func tries() []try {
	var all []try
	for _, m := range []api.Marks{{}, read(x), read(y), read(z), read(x, y, z)} {
		for _, l := range [][]api.Change{nil, write(x), write(y), write(z, y)} {
			all = append(all, try{m, l})
		}
	}
	return all
}

// asks fails unless all that a tracker tells is what p says, and nobody is refused alone: P13.1 and P13.2.
func asks(t *testing.T, r *Tracker, p plain, all []try) {
	stands(t, r, p.summary(), p.list()...)
	for _, c := range all {
		for _, snap := range []uint64{0, 1, 2, 3} {
			out, e := r.Check(snap, c.m, c.l)
			if wantOut, want := p.check(snap, c.m, c.l); out != wantOut || e != want {
				t.Errorf("Check(%d, %v, %v): %v, %v; want %v, %v", snap, c.m, c.l, out, e, wantOut, want)
			}
			if snap >= p.greatest() && (out || e != api.OK) {
				t.Errorf("Check(%d, %v, %v): %v, %v, where nobody is beside it", snap, c.m, c.l, out, e)
			}
		}
	}
	stands(t, r, p.summary(), p.list()...)
}

// replays is a tracker behind a script's calls.
func replays(t *testing.T, most int, script []call) (*Tracker, plain) {
	r, p := New(most), plain{most: most}
	for _, c := range script {
		c.does(t, r, &p)
	}
	return r, p
}

// scripts hands on every script of at most so many calls, in memory that the next one takes.
func scripts(long int, to func(script []call)) {
	all := calls()
	var on func(script []call)
	on = func(script []call) {
		to(script)
		if len(script) == long {
			return
		}
		for _, c := range all {
			on(append(script, c))
		}
	}
	on(make([]call, 0, long))
}

// Every script of up to three calls answers as spelt out, at each of its ends.
func TestScripts(t *testing.T) {
	all := tries()
	for _, most := range []int{0, 1, 2, 3} {
		scripts(3, func(script []call) {
			r, p := replays(t, most, script)
			asks(t, r, p, all)
			if t.Failed() {
				t.Fatal(most, script)
			}
		})
	}
}

// told is what a Check has answered.
type told struct {
	out bool
	e   api.Errno
}

// answers are what a tracker's Checks answer at the snapshots of least and above.
func answers(r *Tracker, least uint64, all []try) []told {
	var l []told
	for _, c := range all {
		for _, snap := range []uint64{least, least + 1, api.MaxStamp} {
			out, e := r.Check(snap, c.m, c.l)
			l = append(l, told{out, e})
		}
	}
	return l
}

// Behind Drop(least) a Check with a snapshot of least or above answers what it answered ahead of it: P13.3.
func TestDropIsNotSeen(t *testing.T) {
	all, dropped := tries(), 0
	for _, most := range []int{1, 3} {
		scripts(3, func(script []call) {
			for least := range uint64(3) {
				r, _ := replays(t, most, script)
				ahead, summary := answers(r, least, all), r.Summary()
				n := r.Drop(least)
				if dropped += n; n == 0 {
					continue
				}
				if !slices.Equal(answers(r, least, all), ahead) || r.Summary() != summary {
					t.Fatalf("Drop(%d) is seen: most %d, %v", least, most, script)
				}
			}
		})
	}
	if dropped == 0 {
		t.Error("nothing was dropped")
	}
}

// A tracker that keeps fewer refuses whatever one that keeps more refuses: P13.3.
func TestLessIsStricter(t *testing.T) {
	all, stricter := tries(), 0
	scripts(3, func(script []call) {
		var r []*Tracker
		for _, most := range []int{0, 1, 2, 3} {
			one, _ := replays(t, most, script)
			r = append(r, one)
		}
		for _, c := range all {
			for snap := range uint64(3) {
				refused := false
				for most := len(r) - 1; most >= 0; most-- {
					_, e := r[most].Check(snap, c.m, c.l)
					if refused && e == api.OK {
						t.Fatalf("one that keeps %d refuses Check(%d, %v, %v), one that keeps fewer doesn't: %v", most+1, snap, c.m, c.l, script)
					}
					if !refused && e != api.OK && most < len(r)-1 {
						stricter++
					}
					refused = e != api.OK
				}
			}
		}
	})
	if stricter == 0 {
		t.Error("all keep as many as they need: nothing is told of fewer")
	}
}

// Many calls in a row, with many done ones at a time.
func TestLongScript(t *testing.T) {
	seed := uint32(13)
	next := func(n int) int {
		seed = seed*1664525 + 1013904223
		return int(seed>>8) % n
	}
	some := tries()
	for _, most := range []int{0, 1, 7, api.MaxTracked} {
		r, p := New(most), plain{most: most}
		old, clash, fine := 0, 0, 0
		for k := range 600 {
			c := some[next(len(some))]
			stamp := uint64(k/2 + next(3))
			wantOut, want := p.check(stamp/2, c.m, c.l)
			out, e := r.Check(stamp/2, c.m, c.l)
			if out != wantOut || e != want {
				t.Fatalf("Check(%d, %v, %v): %v, %v; want %v, %v", stamp/2, c.m, c.l, out, e, wantOut, want)
			}
			d := api.Done{Snap: stamp / 2, Stamp: stamp, Out: next(5) == 0, Marks: c.m, Changes: c.l}
			switch e = r.Add(d); {
			case e != p.add(d):
				t.Fatalf("Add(%v): %v", d, e)
			case e == api.ErrOld:
				old++
			case want == api.ErrClash:
				clash++
			default:
				fine++
			}
			if next(40) == 0 {
				least := max(stamp, 20) - uint64(next(20))
				drops(t, r, least, p.drop(least))
			}
			stands(t, r, p.summary(), p.list()...)
			if t.Failed() {
				t.Fatal(most, k)
			}
		}
		if old == 0 || clash == 0 || fine == 0 {
			t.Error("a script that does little", most, old, clash, fine)
		}
	}
}
