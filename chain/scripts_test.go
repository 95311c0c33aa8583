package chain

import (
	"slices"
	"testing"

	"folio/api"
)

// spelt is a chain spelt out: all that was ever put, and which of it went.
type spelt struct {
	ever []api.Version
	gone []bool
}

func (s *spelt) put(stamp uint64, tick int64, live bool, v []api.Field) (int, api.Errno) {
	wasStamp, wasLive := uint64(0), false
	if n := len(s.ever); n > 0 {
		wasStamp, wasLive = s.ever[n-1].Stamp, s.ever[n-1].Live
	}
	if stamp == 0 || stamp <= wasStamp {
		return 0, api.ErrOld
	}
	if !live && !wasLive {
		return 0, api.ErrNone
	}
	next := api.Version{Number: len(s.ever) + 1, Stamp: stamp, Tick: tick, Live: live}
	if live {
		next.Value = v
	}
	s.ever, s.gone = append(s.ever, next), append(s.gone, false)
	return next.Number, api.OK
}

// those are the versions that are there and that keep takes.
func (s *spelt) those(keep func(api.Version) bool) []api.Version {
	var l []api.Version
	for i, v := range s.ever {
		if !s.gone[i] && keep(v) {
			l = append(l, v)
		}
	}
	return l
}

// end is the last of those that are there and that keep takes.
func (s *spelt) end(keep func(api.Version) bool) (api.Version, bool) {
	l := s.those(keep)
	if len(l) == 0 {
		return api.Version{}, false
	}
	return l[len(l)-1], true
}

func (s *spelt) at(t uint64) (api.Version, bool) {
	return s.end(func(v api.Version) bool { return v.Stamp <= t })
}

func (s *spelt) number(n int) (api.Version, bool) {
	return s.end(func(v api.Version) bool { return v.Number == n })
}

func (s *spelt) since(t uint64) []api.Version {
	return s.those(func(v api.Version) bool { return v.Stamp > t })
}

func (s *spelt) all() []api.Version { return s.those(func(api.Version) bool { return true }) }

func (s *spelt) prune(f uint64) int {
	visible, there := s.at(f)
	n := 0
	for i, v := range s.ever {
		if there && !s.gone[i] && v.Stamp < visible.Stamp {
			s.gone[i] = true
			n++
		}
	}
	return n
}

// step is one call of a script: a Put, or a Prune of the stamp.
type step struct {
	prune bool
	stamp uint64
	live  bool
}

// do makes a call on both, and says what differs.
func do(c *Chain, s *spelt, x step, place int) bool {
	if x.prune {
		return c.Prune(x.stamp) == s.prune(x.stamp)
	}
	v := row(one("a", string(rune('a'+place%26)), "x"), one("b", "y"))
	n, e := c.Put(x.stamp, int64(place), x.live, v)
	m, want := s.put(x.stamp, int64(place), x.live, v)
	return n == m && e == want
}

// agree fails unless all that may be asked is answered alike, at all of these stamps.
func agree(t *testing.T, c *Chain, s *spelt, stamps []uint64, script []step) {
	t.Helper()
	all := s.all()
	if got := c.All(); !sameList(got, all) || c.Len() != len(all) {
		t.Fatalf("%v: All() = %#v, Len() = %d; want %#v", script, got, c.Len(), all)
	}
	last, there := s.end(func(api.Version) bool { return true })
	if got, ok := c.Last(); ok != there || !sameVersion(got, last) {
		t.Fatalf("%v: Last() = %#v, %t; want %#v, %t", script, got, ok, last, there)
	}
	for n := -1; n <= len(s.ever)+1; n++ {
		want, there := s.number(n)
		if got, ok := c.Number(n); ok != there || !sameVersion(got, want) {
			t.Fatalf("%v: Number(%d) = %#v, %t; want %#v, %t", script, n, got, ok, want, there)
		}
	}
	for _, stamp := range stamps {
		want, there := s.at(stamp)
		if got, ok := c.At(stamp); ok != there || !sameVersion(got, want) {
			t.Fatalf("%v: At(%d) = %#v, %t; want %#v, %t", script, stamp, got, ok, want, there)
		}
		if got := c.Since(stamp); !sameList(got, s.since(stamp)) {
			t.Fatalf("%v: Since(%d) = %#v; want %#v", script, stamp, got, s.since(stamp))
		}
	}
}

// inOrder fails unless numbers rise by one, stamps rise, and no two that aren't live follow each other: P6.3.
func inOrder(t *testing.T, l []api.Version, script []step) {
	t.Helper()
	for i, v := range l {
		if v.Number == 1 && !v.Live {
			t.Fatalf("%v: the first one isn't live", script)
		}
		if i > 0 && (v.Number != l[i-1].Number+1 || v.Stamp <= l[i-1].Stamp || !v.Live && !l[i-1].Live) {
			t.Fatalf("%v: %#v stands behind %#v", script, v, l[i-1])
		}
	}
}

// seen is all that may be told at f or later.
type seen struct {
	at    []api.Version
	since [][]api.Version
	last  api.Version
}

func seenFrom(c *Chain, f uint64, stamps []uint64) seen {
	var s seen
	for _, t := range stamps {
		if t >= f {
			v, _ := c.At(t)
			s.at, s.since = append(s.at, v), append(s.since, c.Since(t))
		}
	}
	s.last, _ = c.Last()
	return s
}

func sameSeen(a, b seen) bool {
	return sameList(a.at, b.at) && slices.EqualFunc(a.since, b.since, sameList) && sameVersion(a.last, b.last)
}

// play does a script on a new chain, and fails where it differs, or where a Prune is seen: P6.1 to P6.3.
func play(t *testing.T, script []step, stamps []uint64, eachStep bool) {
	t.Helper()
	c, s := New(), &spelt{}
	for i, x := range script {
		var was seen
		if x.prune {
			was = seenFrom(c, x.stamp, stamps)
		}
		if !do(c, s, x, i) {
			t.Fatalf("%v: call %d differs", script, i)
		}
		if x.prune && !sameSeen(was, seenFrom(c, x.stamp, stamps)) {
			t.Fatalf("%v: call %d is seen", script, i)
		}
		if eachStep || i == len(script)-1 {
			agree(t, c, s, stamps, script[:i+1])
			inOrder(t, c.All(), script[:i+1])
		}
	}
	if len(s.ever) > 0 && c.Len() == 0 {
		t.Fatalf("%v: the version that was put last is gone", script)
	}
}

// All scripts of up to four calls with stamps up to 4 answer as said.
func TestShortScripts(t *testing.T) {
	var calls []step
	var stamps []uint64
	for n := range uint64(5) {
		calls = append(calls, step{stamp: n}, step{stamp: n, live: true}, step{stamp: n, prune: true})
		stamps = append(stamps, n)
	}
	stamps = append(stamps, 5, api.MaxStamp)
	var grow func(script []step)
	grow = func(script []step) {
		play(t, script, stamps, false)
		if len(script) == 4 {
			return
		}
		for _, x := range calls {
			grow(append(slices.Clone(script), x))
		}
	}
	grow(nil)
}

// Long scripts, whose calls come out of a plain rule, answer as said after each call, at small stamps and at the greatest ones.
func TestLongScripts(t *testing.T) {
	for seed := range uint64(60) {
		r := seed*2 + 1
		draw := func(n uint64) uint64 {
			r = r*6364136223846793005 + 1442695040888963407
			return (r >> 33) % n
		}
		base := uint64(0)
		if seed%3 == 0 {
			base = api.MaxStamp - 40
		}
		var script []step
		stamps := []uint64{0, 1, api.MaxStamp - 1, api.MaxStamp}
		next := base
		for range 50 {
			stamps = append(stamps, next)
			switch draw(8) {
			case 0:
				script = append(script, step{prune: true, stamp: base + draw(41)})
			case 1:
				script = append(script, step{stamp: base + draw(41), live: draw(2) == 0})
			case 2, 3:
				script = append(script, step{stamp: next, live: false})
			default:
				script = append(script, step{stamp: next, live: true})
			}
			next = base + min(next-base+draw(3), 40)
		}
		play(t, script, stamps, true)
	}
}

// A Prune below all, at a stamp with a version, between two, at the last and at the greatest: P6.2.
func TestPrune(t *testing.T) {
	for _, x := range []struct {
		f    uint64
		want []int
	}{
		{0, []int{1, 2, 3, 4}}, {9, []int{1, 2, 3, 4}}, {10, []int{1, 2, 3, 4}}, {19, []int{1, 2, 3, 4}},
		{20, []int{2, 3, 4}}, {29, []int{2, 3, 4}}, {30, []int{3, 4}}, {39, []int{3, 4}}, {40, []int{4}}, {41, []int{4}}, {api.MaxStamp, []int{4}},
	} {
		c := New()
		for n := range uint64(4) {
			c.Put((n+1)*10, 0, n != 2, nil)
		}
		if n := c.Prune(x.f); n != 4-len(x.want) || !slices.Equal(numbers(c.All()), x.want) {
			t.Errorf("Prune(%d) = %d, left are %d; want %d", x.f, n, numbers(c.All()), x.want)
		}
		if n, e := c.Put(50, 0, true, nil); n != 5 || e != api.OK {
			t.Errorf("Put behind Prune(%d) = %d, %d; want 5", x.f, n, e)
		}
	}
	// A version that isn't live stays too, if it is the last, and so does what it says of the next.
	c := New()
	c.Put(1, 0, true, nil)
	c.Put(2, 0, false, nil)
	if n := c.Prune(api.MaxStamp); n != 1 || c.Len() != 1 {
		t.Errorf("Prune = %d, Len() = %d; want 1, 1", n, c.Len())
	}
	if n, e := c.Put(2, 0, true, nil); n != 0 || e != api.ErrOld {
		t.Errorf("Put(2, ..) = %d, %d; want ErrOld", n, e)
	}
	if n, e := c.Put(3, 0, false, nil); n != 0 || e != api.ErrNone {
		t.Errorf("Put(3, .., false, ..) = %d, %d; want ErrNone", n, e)
	}
	if n, e := c.Put(3, 0, true, nil); n != 3 || e != api.OK {
		t.Errorf("Put(3, .., true, ..) = %d, %d; want 3", n, e)
	}
	if n := New().Prune(api.MaxStamp); n != 0 {
		t.Errorf("Prune of none = %d", n)
	}
}
