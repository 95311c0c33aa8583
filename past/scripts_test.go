package past

import (
	"slices"
	"testing"

	"folio/api"
	"folio/dir"
	"folio/pred"
)

// step is one call that changes a directory: a Put, or a Prune of the stamp.
type step struct {
	prune bool
	k     api.Key
	stamp uint64
	live  bool
}

// valueAt is the value that the call at a place puts.
func valueAt(place int) []api.Field {
	return row(one("a", string(rune('a'+place%3)), "x"), one("b", string(rune('a'+place%26))))
}

// do makes the call at a place of a script, and says whether it has changed anything.
func do(d *dir.Dir, x step, place int) bool {
	if x.prune {
		return d.Prune(x.stamp) > 0
	}
	_, e := d.Put(x.k, x.stamp, int64(place), x.live, valueAt(place))
	return e == api.OK
}

// made is the directory that a script makes, of those of its calls that keep takes.
func made(script []step, keep func(step) bool) *dir.Dir {
	d := dir.New()
	for i, x := range script {
		if keep(x) {
			do(d, x, i)
		}
	}
	return d
}

func whatever(step) bool   { return true }
func unpruned(x step) bool { return !x.prune }

// text is a key's order as one text: no type has a byte as small as the one between.
func text(k api.Key) string { return k.Type + "\x00" + k.ID }

// spelt is a directory spelt out: the versions that are there, by stamp, then by key.
type spelt []api.Found

// speltOut is what a script leaves.
func speltOut(script []step) spelt {
	var s spelt
	for i, x := range script {
		if x.prune {
			s = s.pruned(x.stamp)
			continue
		}
		var last api.Version
		at := 0
		for j, f := range s {
			if f.Key == x.k {
				last = f.Version
			}
			if f.Version.Stamp < x.stamp || f.Version.Stamp == x.stamp && text(f.Key) < text(x.k) {
				at = j + 1
			}
		}
		if x.stamp <= last.Stamp || !x.live && !last.Live {
			continue
		}
		v := api.Version{Number: last.Number + 1, Stamp: x.stamp, Tick: int64(i), Live: x.live}
		if x.live {
			v.Value = valueAt(i)
		}
		s = slices.Insert(s, at, api.Found{Key: x.k, Version: v})
	}
	return s
}

// only are those that keep takes.
func (s spelt) only(keep func(api.Found) bool) spelt {
	var out spelt
	for _, f := range s {
		if keep(f) {
			out = append(out, f)
		}
	}
	return out
}

// of are k's versions from one stamp to another.
func (s spelt) of(k api.Key, from, to uint64) spelt {
	return s.only(func(f api.Found) bool { return f.Key == k && from <= f.Version.Stamp && f.Version.Stamp <= to })
}

func (s spelt) pruned(f uint64) spelt {
	return s.only(func(x api.Found) bool {
		seen := s.of(x.Key, 0, f)
		return len(seen) == 0 || x.Version.Stamp >= seen[len(seen)-1].Version.Stamp
	})
}

// visible are the last of k's versions up to t.
func (s spelt) visible(k api.Key, t uint64) spelt {
	l := s.of(k, 0, t)
	return l[max(len(l)-1, 0):]
}

// found are the live ones of a type at t that p takes, in order.
func (s spelt) found(typ string, t uint64, p []api.Term) spelt {
	l := s.only(func(f api.Found) bool {
		seen := s.visible(f.Key, t)
		return f.Key.Type == typ && len(seen) == 1 && sameFound(f, seen[0]) && f.Version.Live && pred.Match(p, f.Version.Value)
	})
	slices.SortFunc(l, func(a, b api.Found) int {
		if text(a.Key) < text(b.Key) {
			return -1
		}
		return 1
	})
	return l
}

// number is a version by its number.
func (s spelt) number(w Window, k api.Key, n int) (spelt, api.Errno) {
	if n < 1 {
		return nil, api.ErrArg
	}
	all := s.of(k, 0, api.MaxStamp)
	if l := all.only(func(f api.Found) bool { return f.Version.Number == n && f.Version.Stamp <= w.Snap }); len(l) > 0 {
		return l, api.OK
	}
	if len(all) > 0 && all[0].Version.Number > n {
		return nil, api.ErrOld
	}
	return nil, api.ErrNone
}

// ask answers a question as the chapter says.
func (s spelt) ask(w Window, q question) (spelt, api.Errno) {
	if q.call == callNumber {
		return s.number(w, q.k, q.n)
	}
	if q.stamp < w.Floor {
		return nil, api.ErrOld
	}
	t := q.stamp
	if t > w.Snap {
		t = w.Snap
	}
	above := s.only(func(f api.Found) bool { return f.Version.Stamp > q.stamp && f.Version.Stamp <= w.Snap })
	switch q.call {
	case callAt:
		l := s.visible(q.k, t)
		if len(l) == 0 {
			return nil, api.ErrNone
		}
		return l, api.OK
	case callFind:
		return s.found(q.typ, t, q.p), api.OK
	case callHistory:
		return above.of(q.k, 0, api.MaxStamp), api.OK
	}
	return above.only(func(f api.Found) bool { return f.Key.Type == q.typ }), api.OK
}

// small is a world of three keys and three stamps.
func small() world {
	return world{
		keys:   []api.Key{key("A", "b"), key("A", "a"), key("B", "a")},
		types:  []string{"A", "B"},
		stamps: []uint64{0, 1, 2, 3, api.MaxStamp},
		preds:  [][]api.Term{nil, {{Field: "a", Op: api.OpIs, Text: "b"}}},
		most:   4,
	}
}

// grown goes over all scripts of up to a length, of two keys' Puts at stamps of up to three, and Prunes. A call that changes nothing is left out: what it leaves stands already.
func grown(length int, prunes bool, each func(script []step)) {
	var calls []step
	for n := range uint64(4) {
		if prunes {
			calls = append(calls, step{stamp: n, prune: true})
		}
		for _, k := range small().keys[:2] {
			calls = append(calls, step{k: k, stamp: n}, step{k: k, stamp: n, live: true})
		}
	}
	var grow func(script []step)
	grow = func(script []step) {
		each(script)
		if len(script) == length {
			return
		}
		for _, x := range calls {
			if do(made(script, whatever), x, len(script)) {
				grow(append(slices.Clone(script), x))
			}
		}
	}
	grow(nil)
}

// drawn is a long script whose calls come out of a plain rule, at small stamps or at the greatest ones.
func drawn(seed uint64, length int, prunes bool) ([]step, world) {
	r := seed*2 + 1
	draw := func(n uint64) uint64 {
		r = r*6364136223846793005 + 1442695040888963407
		return (r >> 33) % n
	}
	base := uint64(0)
	if seed%3 == 0 {
		base = api.MaxStamp - 20
	}
	keys := []api.Key{key("B", "a"), key("A", "b"), key("A", "a"), key("Aa", "a"), key("A", "-")}
	w := world{keys: append(slices.Clone(keys), key("C", "c")), types: []string{"B", "A", "Aa", "C"}, stamps: []uint64{0, 1, api.MaxStamp}, preds: small().preds, most: 9}
	for n := range uint64(6) {
		w.stamps = append(w.stamps, base+n*4)
	}
	var script []step
	next := base
	for range length {
		if prunes && draw(12) == 0 {
			script = append(script, step{prune: true, stamp: base + draw(21)})
			continue
		}
		script = append(script, step{k: keys[draw(uint64(len(keys)))], stamp: next, live: draw(3) > 0})
		next = base + min(next-base+draw(3), 20)
	}
	return script, w
}

// agree fails unless a script's directory answers each question as the chapter says.
func agree(t *testing.T, script []step, w world) {
	t.Helper()
	d, s := made(script, whatever), speltOut(script)
	for _, window := range w.windows() {
		for _, q := range w.questions() {
			l, e := ask(d, window, q)
			want, f := s.ask(window, q)
			if e != f || !sameFinds(l, want) {
				t.Fatalf("%v: %v, %+v: %v, %d; want %v, %d", script, window, q, l, e, want, f)
			}
		}
	}
}

// All short scripts are answered as said, in all windows: P14.1.
func TestShortScripts(t *testing.T) {
	w := small()
	grown(3, true, func(script []step) { agree(t, script, w) })
}

// Long scripts are answered as said: P14.1.
func TestLongScripts(t *testing.T) {
	for seed := range uint64(12) {
		script, w := drawn(seed, 20+int(seed), true)
		agree(t, script, w)
	}
}

// later says whether a version is visible at f or at a later stamp.
func later(whole *dir.Dir, x api.Found, f uint64) bool {
	v, there := whole.At(x.Key, f)
	return !there || x.Version.Stamp >= v.Stamp
}

// unseen fails unless a directory whose prunes were of f or below answers, with a floor and a snapshot of f or above, what the same one that wasn't pruned does. Number alone may say Old in the place of a version that isn't visible at f or later.
func unseen(t *testing.T, script []step, pruned, whole *dir.Dir, f uint64, w world) {
	t.Helper()
	for _, window := range w.windows() {
		if window.Floor < f || window.Snap < f {
			continue
		}
		for _, q := range w.questions() {
			got, e := ask(pruned, window, q)
			want, g := ask(whole, window, q)
			if e == g && sameFinds(got, want) {
				continue
			}
			if old := q.call == callNumber && e == api.ErrOld && len(got) == 0 && g == api.OK; !old || later(whole, want[0], f) {
				t.Fatalf("%v, pruned by %d: %v, %+v: %v, %d; without prunes %v, %d", script, f, window, q, got, e, want, g)
			}
		}
	}
}

// Behind one Prune all short scripts are answered as without it: P14.2.
func TestVacuumShort(t *testing.T) {
	w := small()
	grown(4, false, func(script []step) {
		for f := range uint64(4) {
			pruned := made(script, whatever)
			if pruned.Prune(f) > 0 {
				unseen(t, script, pruned, made(script, whatever), f, w)
			}
		}
	})
}

// Behind one Prune, at any stamp, long scripts are answered as without it: P14.2.
func TestVacuumLong(t *testing.T) {
	for seed := range uint64(10) {
		script, w := drawn(seed, 24, false)
		for _, f := range w.stamps {
			pruned := made(script, whatever)
			pruned.Prune(f)
			unseen(t, script, pruned, made(script, whatever), f, w)
		}
	}
}

// Number says Old just of what a Prune let go: P14.2.
func TestVacuumNumber(t *testing.T) {
	for seed := range uint64(10) {
		script, w := drawn(seed, 40, false)
		for _, f := range w.stamps {
			pruned, whole := made(script, whatever), made(script, whatever)
			pruned.Prune(f)
			for _, k := range w.keys {
				for _, x := range with(k, whole.Since(k, 0)...) {
					want, these := api.ErrOld, []int(nil)
					if later(whole, x, f) {
						want, these = api.OK, []int{x.Version.Number}
					}
					tells(t, pruned, Window{Floor: f, Snap: api.MaxStamp}, question{call: callNumber, k: k, n: x.Version.Number}, want, these...)
				}
			}
		}
	}
}

// Whatever prunes of f or below there were, between whatever Puts: no answer of a window of f lacks anything: P14.3.
func TestWholeOrOld(t *testing.T) {
	check := func(script []step, w world) {
		t.Helper()
		f := uint64(0)
		for _, x := range script {
			if x.prune {
				f = max(f, x.stamp)
			}
		}
		if f > 0 {
			w.stamps = append(slices.Clone(w.stamps), f)
			unseen(t, script, made(script, whatever), made(script, unpruned), f, w)
		}
	}
	w := small()
	grown(4, true, func(script []step) {
		if len(script) == 4 {
			check(script, w)
		}
	})
	for seed := range uint64(20) {
		script, w := drawn(seed, 30, true)
		check(script, w)
	}
}

// What is put above the snapshot, for keys that are there and new ones, live or not, is never seen, not even in the spare room of an answer: P14.4.
func TestBelowTheSnapshotStays(t *testing.T) {
	check := func(script []step, w world) {
		t.Helper()
		for _, window := range w.windows() {
			if window.Snap == api.MaxStamp {
				continue
			}
			d := made(script, whatever)
			for i, k := range w.keys {
				last, _ := d.Last(k)
				stamp := max(last.Stamp, window.Snap)
				for n := range min(2, api.MaxStamp-stamp) {
					do(d, step{k: k, stamp: stamp + n + 1, live: (uint64(i)+n)%2 == 0}, i)
				}
			}
			was := made(script, whatever)
			for _, q := range w.questions() {
				got, e := ask(d, window, q)
				want, f := ask(was, window, q)
				if e != f || !sameFinds(got, want) {
					t.Fatalf("%v: %v, %+v: %v, %d; ahead of what was put above %v, %d", script, window, q, got, e, want, f)
				}
				for _, x := range got[:cap(got)] {
					if x.Version.Stamp > window.Snap {
						t.Fatalf("%v: %v, %+v has %v in its spare room", script, window, q, x)
					}
				}
			}
		}
	}
	w := small()
	grown(2, true, func(script []step) { check(script, w) })
	for seed := range uint64(12) {
		script, w := drawn(seed, 20, true)
		check(script, w)
	}
}
