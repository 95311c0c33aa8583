package marks

import (
	"slices"
	"strings"
	"testing"

	"folio/api"
)

// somePreds are the predicates of the laws' ranges; takes spells out what they take.
func somePreds() [][]api.Term {
	return [][]api.Term{
		nil, {is("n", "x")}, {{Field: "n", Op: api.OpNot, Text: "x"}}, {{Field: "n", Op: api.OpHas}}, {{Field: "n", Op: api.OpLacks}},
		{is("n", "x"), is("n", "y")}, {{Field: "n", Op: 9}}, {is("n", "x"), {Field: "n", Op: api.OpLacks}},
	}
}

// takes spells out whether the predicate number p of somePreds takes a value of someValues.
func takes(p int, v []api.Field) bool {
	var texts []string
	if len(v) > 0 {
		texts = v[0].Texts
	}
	x, y := slices.Contains(texts, "x"), slices.Contains(texts, "y")
	return []bool{true, x, !x, len(texts) > 0, len(texts) == 0, x && y, false, false}[p]
}

func someValues() [][]api.Field {
	return [][]api.Field{nil, row(one("n", "x")), row(one("n", "y")), row(one("n", "y", "x")), row(one("n"))}
}

// someChanges are all changes of a few keys from and to a few values, or none.
func someChanges() []api.Change {
	var l []api.Change
	for _, k := range []api.Key{key("A", "a"), key("A", "b"), key("B", "a"), key("", "")} {
		l = append(l, api.Change{Key: k})
		for _, v := range someValues() {
			l = append(l, made(k, v), gone(k, v), api.Change{Key: k, Was: v, Is: v})
			for _, w := range someValues() {
				l = append(l, put(k, v, w))
			}
		}
	}
	return l
}

// someMarks are marks of few keys and ranges.
func someMarks() []api.Marks {
	var l []api.Marks
	for _, ks := range [][]api.Key{nil, {key("A", "a")}, {key("B", "a"), key("A", "b")}, {key("", "")}} {
		l = append(l, api.Marks{Keys: ks})
		for _, p := range somePreds() {
			l = append(l, api.Marks{Keys: ks, Ranges: spans(span("A", p...))}, api.Marks{Keys: ks, Ranges: spans(span("B", p...), span("A", is("n", "y")))})
		}
	}
	return l
}

// Touches is what is spelt out, of every predicate and change.
func TestTouchesSpeltOut(t *testing.T) {
	for n, p := range somePreds() {
		for _, typ := range []string{"A", "B", "C", ""} {
			for _, c := range someChanges() {
				touches(t, span(typ, p...), c, typ == c.Key.Type && (c.WasLive && takes(n, c.Was) || c.IsLive && takes(n, c.Is)))
			}
		}
	}
}

// What hits one of two marks hits both together, and nothing else does; Hits is whether Which has any: P12.2.
func TestMoreIsHitByMore(t *testing.T) {
	all, changes := someMarks(), someChanges()
	for _, a := range all {
		for _, b := range all {
			both := Union(a, b)
			for i, c := range changes {
				l := []api.Change{c}
				if Hits(both, l) != (Hits(a, l) || Hits(b, l)) {
					t.Fatalf("%v hits %v, %v or both of them, as it must not", c, a, b)
				}
				l = append(l, changes[i*7%len(changes)], changes[i*31%len(changes)])
				some := append(Which(a, l), Which(b, l)...)
				slices.SortFunc(some, func(a, b api.Key) int { return strings.Compare(a.Type+"/"+a.ID, b.Type+"/"+b.ID) })
				which(t, both, l, slices.Compact(some)...)
			}
		}
		if t.Failed() {
			return
		}
	}
}

// A key or a range more is hit by what hits it, and by what hit the marks ahead of it.
func TestOneMore(t *testing.T) {
	for _, m := range someMarks() {
		for _, c := range someChanges() {
			l := []api.Change{c}
			for _, k := range []api.Key{key("A", "a"), key("A", "c"), key("", "")} {
				if Hits(Key(m, k), l) != (Hits(m, l) || c.Key == k) {
					t.Fatalf("Key(%v, %v) is hit by %v, as it must not be", m, k, c)
				}
			}
			for n, p := range somePreds() {
				if r := span("A", p...); Hits(Range(m, "A", p), l) != (Hits(m, l) || Touches(r, c)) {
					t.Fatalf("Range(%v) with predicate %d is hit by %v, as it must not be", m, n, c)
				}
			}
		}
	}
}

// read is what a range tells of a list of live resources: the keys and values that it takes.
func read(typ string, p int, live []api.Change) string {
	var b strings.Builder
	for _, c := range live {
		if c.Key.Type == typ && takes(p, c.Is) {
			b.WriteString(c.Key.Type + "/" + c.Key.ID)
			for _, f := range c.Is {
				b.WriteString(" " + f.Name + "=" + strings.Join(f.Texts, ","))
			}
			b.WriteString(";")
		}
	}
	return b.String()
}

// lists are the live resources ahead of a change and behind it, with others on both sides.
func lists(c api.Change, others []api.Change) (ahead, behind []api.Change) {
	half := len(others) / 2
	ahead, behind = slices.Clone(others[:half]), slices.Clone(others[:half])
	if c.WasLive {
		ahead = append(ahead, made(c.Key, c.Was))
	}
	if c.IsLive {
		behind = append(behind, made(c.Key, c.Is))
	}
	return append(ahead, others[half:]...), append(behind, others[half:]...)
}

// What a range tells is the same ahead of a change and behind it, unless the change hits it: P12.3.
func TestNothingIsMissed(t *testing.T) {
	x, y := row(one("n", "x")), row(one("n", "y"))
	other := []api.Change{made(key("A", "0"), x), made(key("A", "00"), y), made(key("A", "1"), nil), made(key("B", "z"), x), made(key("A", "z"), row(one("n", "y", "x")))}
	for n, p := range somePreds() {
		for _, typ := range []string{"A", "B", "C", ""} {
			for _, c := range someChanges() {
				for size := range len(other) + 1 {
					ahead, behind := lists(c, other[:size])
					if was, is := read(typ, n, ahead), read(typ, n, behind); was != is && !Touches(span(typ, p...), c) {
						t.Fatalf("predicate %d of %q tells %q, then %q, and %v has not hit it", n, typ, was, is, c)
					}
				}
			}
		}
	}
}

// Marks that are made call by call, in a long run, are what is spelt out of all calls so far.
func TestLongRun(t *testing.T) {
	seed := uint32(12)
	next := func(n int) int {
		seed = seed*1664525 + 1013904223
		return int(seed>>8) % n
	}
	for range 60 {
		var m, part api.Marks
		var wantKeys []api.Key
		var wantRanges []api.Range
		for range 60 {
			k := key(string(rune('A'+next(3))), string(rune('a'+next(9))))
			r := span(string(rune('A'+next(3))), somePreds()[next(len(somePreds()))]...)
			switch next(4) {
			case 0:
				m, wantKeys = Key(m, k), append(wantKeys, k)
			case 1:
				m, wantRanges = Range(m, r.Type, r.Pred), append(wantRanges, r)
			case 2:
				part = Range(Key(part, k), r.Type, r.Pred)
			case 3:
				m = Union(m, part)
				wantKeys, wantRanges = append(wantKeys, part.Keys...), append(wantRanges, part.Ranges...)
				part = api.Marks{}
			}
		}
		tells(t, "a long run", m, spelt(wantKeys, wantRanges))
	}
}

// spelt are marks of keys and ranges that were marked one after the other.
func spelt(ks []api.Key, rs []api.Range) api.Marks {
	var m api.Marks
	for typ := 'A'; typ <= 'C'; typ++ {
		for id := 'a'; id <= 'i'; id++ {
			if k := key(string(typ), string(id)); slices.Contains(ks, k) {
				m.Keys = append(m.Keys, k)
			}
		}
	}
	for i, r := range rs {
		if !slices.ContainsFunc(rs[:i], func(o api.Range) bool { return alike(o, r) }) {
			m.Ranges = append(m.Ranges, r)
		}
	}
	return m
}
