package dir

import (
	"slices"
	"strings"
	"testing"

	"folio/api"
	"folio/pred"
)

// laid is one version that was put, and whether it went.
type laid struct {
	api.Found
	gone bool
}

// spelt is a directory spelt out: all that was ever put, in the order of the calls.
type spelt struct{ ever []laid }

func (s *spelt) put(k api.Key, stamp uint64, tick int64, live bool, v []api.Field) (int, api.Errno) {
	number, wasStamp, wasLive := 1, uint64(0), false
	for _, l := range s.ever {
		if l.Key == k {
			number, wasStamp, wasLive = l.Version.Number+1, l.Version.Stamp, l.Version.Live
		}
	}
	if stamp == 0 || stamp <= wasStamp {
		return 0, api.ErrOld
	}
	if !live && !wasLive {
		return 0, api.ErrNone
	}
	next := api.Version{Number: number, Stamp: stamp, Tick: tick, Live: live}
	if live {
		next.Value = v
	}
	s.ever = append(s.ever, laid{Found: api.Found{Key: k, Version: next}})
	return number, api.OK
}

// of are k's versions that are there and that keep takes.
func (s *spelt) of(k api.Key, keep func(api.Version) bool) []api.Version {
	var out []api.Version
	for _, l := range s.ever {
		if !l.gone && l.Key == k && keep(l.Version) {
			out = append(out, l.Version)
		}
	}
	return out
}

func whatever(api.Version) bool { return true }

// end is the last of a list.
func end(l []api.Version) (api.Version, bool) {
	if len(l) == 0 {
		return api.Version{}, false
	}
	return l[len(l)-1], true
}

func (s *spelt) at(k api.Key, t uint64) (api.Version, bool) {
	return end(s.of(k, func(v api.Version) bool { return v.Stamp <= t }))
}

func (s *spelt) number(k api.Key, n int) (api.Version, bool) {
	return end(s.of(k, func(v api.Version) bool { return v.Number == n }))
}

func (s *spelt) since(k api.Key, t uint64) []api.Version {
	return s.of(k, func(v api.Version) bool { return v.Stamp > t })
}

func (s *spelt) first(k api.Key) (api.Version, bool) {
	l := s.of(k, whatever)
	return end(l[:min(len(l), 1)])
}

// text is a key's order as one text: no type has a byte as small as the one between.
func text(k api.Key) string { return k.Type + "\x00" + k.ID }

// keys are the keys that are there and that keep takes, by an insertion of each in its place.
func (s *spelt) keys(keep func(api.Key) bool) []api.Key {
	var out []api.Key
	for _, l := range s.ever {
		at := 0
		for at < len(out) && text(out[at]) < text(l.Key) {
			at++
		}
		if keep(l.Key) && (at == len(out) || out[at] != l.Key) {
			out = slices.Insert(out, at, l.Key)
		}
	}
	return out
}

func (s *spelt) ofType(typ string) []api.Key {
	return s.keys(func(k api.Key) bool { return k.Type == typ })
}

func (s *spelt) live(keys []api.Key, t uint64, p []api.Term) []api.Found {
	var out []api.Found
	for _, k := range keys {
		if v, ok := s.at(k, t); ok && v.Live && pred.Match(p, v.Value) {
			out = append(out, api.Found{Key: k, Version: v})
		}
	}
	return out
}

func (s *spelt) log(typ string, t uint64) []api.Found {
	var out []api.Found
	for _, l := range s.ever {
		if l.gone || l.Key.Type != typ || l.Version.Stamp <= t {
			continue
		}
		at := 0
		for at < len(out) && (out[at].Version.Stamp < l.Version.Stamp || out[at].Version.Stamp == l.Version.Stamp && text(out[at].Key) < text(l.Key)) {
			at++
		}
		out = slices.Insert(out, at, l.Found)
	}
	return out
}

func (s *spelt) count() int {
	n := 0
	for _, l := range s.ever {
		if !l.gone {
			n++
		}
	}
	return n
}

func (s *spelt) prune(f uint64) int {
	n := 0
	for _, k := range s.keys(func(api.Key) bool { return true }) {
		visible, there := s.at(k, f)
		for i, l := range s.ever {
			if there && !l.gone && l.Key == k && l.Version.Stamp < visible.Stamp {
				s.ever[i].gone = true
				n++
			}
		}
	}
	return n
}

// step is one call of a script: a Put, or a Prune of the stamp.
type step struct {
	prune bool
	k     api.Key
	stamp uint64
	live  bool
}

// valueAt is the value that the call at a place puts.
func valueAt(place int) []api.Field {
	return row(one("a", string(rune('a'+place%3)), "x"), one("b", string(rune('a'+place%26))))
}

// put does a Put of a script on a directory.
func put(d *Dir, x step, place int) (int, api.Errno) {
	return d.Put(x.k, x.stamp, int64(place), x.live, valueAt(place))
}

// do makes a call on both, and says whether they answer alike.
func do(d *Dir, s *spelt, x step, place int) bool {
	if x.prune {
		return d.Prune(x.stamp) == s.prune(x.stamp)
	}
	n, e := put(d, x, place)
	m, want := s.put(x.k, x.stamp, int64(place), x.live, valueAt(place))
	return n == m && e == want
}

// world is what a script is asked about.
type world struct {
	keys   []api.Key
	types  []string
	stamps []uint64
	preds  [][]api.Term
}

// somePreds are predicates that take some of what valueAt makes.
func somePreds() [][]api.Term {
	return [][]api.Term{
		nil,
		{{Field: "a", Op: api.OpIs, Text: "b"}},
		{{Field: "a", Op: api.OpNot, Text: "b"}, {Field: "b", Op: api.OpHas}},
		{{Field: "b", Op: api.OpAbove, Text: "c"}},
		{{Field: "b", Op: api.OpLacks}},
	}
}

// agreeKey fails unless all that may be asked of a key is answered alike.
func agreeKey(t *testing.T, d *Dir, s *spelt, k api.Key, stamps []uint64, script []step) {
	t.Helper()
	version := func(what string, got api.Version, ok bool, want api.Version, there bool) {
		t.Helper()
		if ok != there || !sameVersion(got, want) {
			t.Fatalf("%v: %s of %v = %#v, %t; want %#v, %t", script, what, k, got, ok, want, there)
		}
	}
	got, ok := d.Last(k)
	want, there := end(s.of(k, whatever))
	version("Last", got, ok, want, there)
	got, ok = d.First(k)
	want, there = s.first(k)
	version("First", got, ok, want, there)
	for n := -1; n <= want.Number+len(script)+1; n++ {
		got, ok = d.Number(k, n)
		want, there := s.number(k, n)
		version("Number", got, ok, want, there)
	}
	for _, stamp := range stamps {
		got, ok = d.At(k, stamp)
		want, there = s.at(k, stamp)
		version("At", got, ok, want, there)
		if got, want := d.Since(k, stamp), s.since(k, stamp); !sameList(got, want) {
			t.Fatalf("%v: Since(%v, %d) = %#v; want %#v", script, k, stamp, got, want)
		}
	}
}

// agree fails unless all that may be asked is answered alike.
func agree(t *testing.T, d *Dir, s *spelt, w world, script []step) {
	t.Helper()
	finds := func(what string, got, want []api.Found) {
		t.Helper()
		if !sameFinds(got, want) {
			t.Fatalf("%v: %s = %#v; want %#v", script, what, got, want)
		}
	}
	if got, want := d.Count(), s.count(); got != want {
		t.Fatalf("%v: Count() = %d; want %d", script, got, want)
	}
	for _, k := range w.keys {
		agreeKey(t, d, s, k, w.stamps, script)
	}
	for _, typ := range w.types {
		if got, want := d.Keys(typ), s.ofType(typ); !slices.Equal(got, want) {
			t.Fatalf("%v: Keys(%q) = %v; want %v", script, typ, got, want)
		}
	}
	for _, stamp := range w.stamps {
		finds("Walk", walked(d.Walk(stamp)), s.live(s.keys(func(api.Key) bool { return true }), stamp, nil))
		for _, typ := range w.types {
			finds("Log", d.Log(typ, stamp), s.log(typ, stamp))
			for _, p := range w.preds {
				finds("Scan", d.Scan(typ, stamp, p), s.live(s.ofType(typ), stamp, p))
			}
		}
	}
}

// seen is all that may be told at f or later.
type seen struct {
	keys     []api.Key
	finds    [][]api.Found
	versions []api.Version
	lists    [][]api.Version
}

func seenFrom(d *Dir, f uint64, w world) seen {
	var s seen
	for _, typ := range w.types {
		s.keys = append(s.keys, d.Keys(typ)...)
	}
	for _, k := range w.keys {
		v, _ := d.Last(k)
		s.versions = append(s.versions, v)
	}
	for _, t := range w.stamps {
		if t < f {
			continue
		}
		s.finds = append(s.finds, walked(d.Walk(t)))
		for _, k := range w.keys {
			v, _ := d.At(k, t)
			s.versions, s.lists = append(s.versions, v), append(s.lists, d.Since(k, t))
		}
		for _, typ := range w.types {
			s.finds = append(s.finds, d.Log(typ, t))
			for _, p := range w.preds {
				s.finds = append(s.finds, d.Scan(typ, t, p))
			}
		}
	}
	return s
}

func sameSeen(a, b seen) bool {
	return slices.Equal(a.keys, b.keys) && slices.EqualFunc(a.finds, b.finds, sameFinds) && sameList(a.versions, b.versions) && slices.EqualFunc(a.lists, b.lists, sameList)
}

// play does a script on a new directory, and fails where it differs, or where a Prune is seen: P7.1 and P7.3.
func play(t *testing.T, script []step, w world, eachStep bool) *Dir {
	t.Helper()
	d, s := New(), &spelt{}
	for i, x := range script {
		var was seen
		if x.prune {
			was = seenFrom(d, x.stamp, w)
		}
		if !do(d, s, x, i) {
			t.Fatalf("%v: call %d differs", script, i)
		}
		if x.prune && !sameSeen(was, seenFrom(d, x.stamp, w)) {
			t.Fatalf("%v: call %d is seen", script, i)
		}
		if eachStep || i == len(script)-1 {
			agree(t, d, s, w, script[:i+1])
		}
	}
	return d
}

// All scripts of up to three calls over three keys, with stamps up to 3, answer as said.
func TestShortScripts(t *testing.T) {
	w := world{keys: []api.Key{key("A", "a"), key("A", "b"), key("B", "a")}, types: []string{"A", "B", ""}, stamps: []uint64{0, 1, 2, 3, api.MaxStamp}, preds: somePreds()[:3]}
	var calls []step
	for n := range uint64(4) {
		calls = append(calls, step{stamp: n, prune: true})
		for _, k := range w.keys {
			calls = append(calls, step{k: k, stamp: n}, step{k: k, stamp: n, live: true})
		}
	}
	var grow func(script []step)
	grow = func(script []step) {
		play(t, script, w, false)
		if len(script) == 3 {
			return
		}
		for _, x := range calls {
			grow(append(slices.Clone(script), x))
		}
	}
	grow(nil)
}

// drawn is a long script whose calls come out of a plain rule, at small stamps or at the greatest ones.
func drawn(seed uint64, length int, prunes bool) ([]step, world) {
	r := seed*2 + 1
	draw := func(n uint64) uint64 {
		r = r*6364136223846793005 + 1442695040888963407
		return (r >> 33) % n
	}
	base := uint64(0)
	if seed%3 == 0 {
		base = api.MaxStamp - 30
	}
	keys := []api.Key{key("B", "a"), key("A", "b"), key("A", "a"), key("Aa", "a"), key("A", "-"), key("B", "0")}
	w := world{keys: append(slices.Clone(keys), key("C", "c")), types: []string{"B", "A", "Aa", "C"}, stamps: []uint64{0, 1, api.MaxStamp}, preds: somePreds()}
	for n := range uint64(8) {
		w.stamps = append(w.stamps, base+n*4)
	}
	var script []step
	next := base
	for range length {
		k := keys[draw(uint64(len(keys)))]
		switch what := draw(12); {
		case what == 0 && prunes:
			script = append(script, step{prune: true, stamp: base + draw(31)})
		case what <= 1:
			script = append(script, step{k: k, stamp: base + draw(31), live: draw(2) == 0})
		default:
			script = append(script, step{k: k, stamp: next, live: draw(3) > 0})
		}
		next = base + min(next-base+draw(3), 30)
	}
	return script, w
}

// Long scripts answer as said after each call.
func TestLongScripts(t *testing.T) {
	for seed := range uint64(40) {
		script, w := drawn(seed, 45, true)
		play(t, script, w, true)
	}
}

// The calls of one key, with those of all other keys left out, answer the same: P7.2.
func TestByItself(t *testing.T) {
	for seed := range uint64(40) {
		script, w := drawn(seed, 60, true)
		all := play(t, script, w, false)
		for _, k := range w.keys {
			alone := New()
			for i, x := range script {
				if x.prune {
					alone.Prune(x.stamp)
				} else if x.k == k {
					put(alone, x, i)
				}
			}
			if a, b := all.Since(k, 0), alone.Since(k, 0); !sameList(a, b) {
				t.Fatalf("%v: %v is %#v; by itself %#v", script, k, a, b)
			}
			for _, stamp := range w.stamps {
				a, aThere := all.At(k, stamp)
				b, bThere := alone.At(k, stamp)
				if !sameVersion(a, b) || aThere != bThere {
					t.Fatalf("%v: At(%v, %d) = %#v; by itself %#v", script, k, stamp, a, b)
				}
			}
		}
	}
	// A Put of one key is seen by no other, whatever it answers.
	k, other := key("A", "a"), key("A", "b")
	d := New()
	d.Put(other, 4, 0, true, row(one("a", "x")))
	was := d.Since(other, 0)
	for _, x := range []step{{k: k, stamp: 4, live: true}, {k: k, stamp: 1, live: true}, {k: k, stamp: 9}, {k: k, stamp: 9}, {k: key("", "b"), stamp: 9, live: true}, {k: key("B", "b"), stamp: 2, live: true}} {
		put(d, x, 0)
		if got := d.Since(other, 0); !sameList(got, was) {
			t.Errorf("%v has changed %#v to %#v", x, was, got)
		}
	}
}

// Scan, Walk and Log hold together as the chapter says: P7.4.
func TestScansTogether(t *testing.T) {
	for seed := range uint64(40) {
		script, w := drawn(seed, 50, seed%2 == 0)
		d := play(t, script, w, false)
		for _, stamp := range w.stamps {
			for _, typ := range w.types {
				all := d.Scan(typ, stamp, nil)
				for _, p := range w.preds {
					want := slices.DeleteFunc(slices.Clone(all), func(f api.Found) bool { return !pred.Match(p, f.Version.Value) })
					if got := d.Scan(typ, stamp, p); !sameFinds(got, want) {
						t.Fatalf("%v: Scan(%q, %d, %v) = %#v; want %#v", script, typ, stamp, p, got, want)
					}
				}
				others := func(f api.Found) bool { return f.Key.Type != typ }
				if got := slices.DeleteFunc(walked(d.Walk(stamp)), others); !sameFinds(got, all) {
					t.Fatalf("%v: Walk(%d) of %q = %#v; want %#v", script, stamp, typ, got, all)
				}
			}
		}
		if seed%2 == 0 {
			continue
		}
		// Never pruned: each version that was put is in the log once.
		again, want := New(), []api.Found{}
		for i, x := range script {
			if _, e := put(again, x, i); e == api.OK {
				v, _ := again.Last(x.k)
				want = append(want, api.Found{Key: x.k, Version: v})
			}
		}
		for _, stamp := range w.stamps {
			for _, typ := range w.types {
				got := d.Log(typ, stamp)
				for _, f := range want {
					n := 0
					for _, g := range got {
						if sameFound(f, g) {
							n++
						}
					}
					if there := f.Key.Type == typ && f.Version.Stamp > stamp; there != (n == 1) || n > 1 {
						t.Fatalf("%v: Log(%q, %d) has %#v %d times", script, typ, stamp, f, n)
					}
				}
			}
		}
	}
}

// Prune lets go over all keys together what can't be seen, and keys that aren't live stay: P7.1 and P7.3.
func TestPrune(t *testing.T) {
	for _, x := range []struct {
		f    uint64
		gone int
	}{{0, 0}, {9, 0}, {10, 0}, {14, 0}, {15, 1}, {19, 1}, {20, 2}, {25, 3}, {29, 3}, {30, 4}, {api.MaxStamp, 4}} {
		d := New()
		for _, s := range []uint64{10, 20, 30} {
			d.Put(key("A", "a"), s, 0, s != 30, nil)
		}
		for _, s := range []uint64{14, 15, 25} {
			d.Put(key("B", "a"), s, 0, true, nil)
		}
		d.Put(key("C", "a"), 20, 0, true, nil)
		if n := d.Prune(x.f); n != x.gone || d.Count() != 7-x.gone {
			t.Errorf("Prune(%d) = %d, Count() = %d; want %d, %d", x.f, n, d.Count(), x.gone, 7-x.gone)
		}
		if n := d.Prune(x.f); n != 0 {
			t.Errorf("Prune(%d) again = %d; want 0", x.f, n)
		}
		if !slices.Equal(d.Keys("A"), []api.Key{key("A", "a")}) {
			t.Errorf("Keys(A) behind Prune(%d) = %v", x.f, d.Keys("A"))
		}
		if n, e := d.Put(key("A", "a"), 40, 0, true, nil); n != 4 || e != api.OK {
			t.Errorf("Put behind Prune(%d) = %d, %d; want 4", x.f, n, e)
		}
	}
}

// Many keys and many versions are told in order, quickly.
func TestMany(t *testing.T) {
	d := New()
	letters := "abcdefghijklmnopqrstuvwxyz"
	stamp := uint64(0)
	for range 3 {
		for _, a := range letters {
			for _, b := range letters {
				stamp++
				d.Put(key("A", string(b)+string(a)), stamp, 0, true, nil)
			}
		}
	}
	ids := func(l []api.Found) string {
		var out []string
		for _, f := range l {
			out = append(out, f.Key.ID)
		}
		return strings.Join(out, " ")
	}
	scan := ids(d.Scan("A", stamp, nil))
	if !strings.HasPrefix(scan, "aa ab ac") || !strings.HasSuffix(scan, "zx zy zz") || len(scan) != 26*26*3-1 {
		t.Errorf("Scan has %s", scan)
	}
	log := ids(d.Log("A", 0))
	if !strings.HasPrefix(log, "aa ba ca") || !strings.HasSuffix(log, "xz yz zz") || len(log) != 3*26*26*3-1 {
		t.Errorf("Log has %s", log)
	}
	if n := d.Prune(stamp); n != 2*26*26 || d.Count() != 26*26 {
		t.Errorf("Prune = %d, Count() = %d", n, d.Count())
	}
}

// Many keys at one stamp stand in the log by key: P7.1.
func TestManyAtOneStamp(t *testing.T) {
	d := New()
	letters := "abcdefghijklmnopqrstuvwxyz"
	for stamp := range uint64(3) {
		for _, a := range letters {
			for _, b := range letters {
				d.Put(key("A", string(b)+string(a)), stamp+1, 0, true, nil)
			}
		}
	}
	log := d.Log("A", 0)
	keys := d.Keys("A")
	if len(log) != 3*len(keys) {
		t.Fatalf("Log has %d; want %d", len(log), 3*len(keys))
	}
	for i, f := range log {
		if f.Key != keys[i%len(keys)] || f.Version.Stamp != uint64(i/len(keys)+1) {
			t.Fatalf("number %d is %v at %d", i, f.Key, f.Version.Stamp)
		}
	}
}
