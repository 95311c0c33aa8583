package writes

import (
	"slices"
	"strings"
	"testing"

	"folio/api"
)

// call is one call of a script: Put, Delete or Forget of a key.
type call struct {
	kind rune // 'p', 'd', 'f'
	key  api.Key
	v    []api.Field
}

var someKeys = []api.Key{{Type: "A", ID: "a"}, {Type: "A", ID: "b"}, {Type: "B", ID: "a"}}

// calls are all that scripts are made of.
func calls() []call {
	var l []call
	for _, k := range someKeys {
		l = append(l, call{'p', k, row(one("n", "x"))}, call{'p', k, row(one("m", "y"), one("n", "y", "z"))}, call{'d', k, nil}, call{'f', k, nil})
	}
	return append(l, call{'p', someKeys[0], row(one("n"))}, call{'p', key("b", "b"), nil}, call{'d', key("A", "/"), nil}, call{'p', someKeys[1], nil})
}

// fails is the error of a call, of those that calls tells.
func (c call) fails() api.Errno {
	if c.kind != 'f' && !slices.Contains(someKeys, c.key) {
		return api.ErrName
	}
	if c.kind == 'p' && len(c.v) == 1 && len(c.v[0].Texts) == 0 {
		return api.ErrField
	}
	return api.OK
}

// last is the call of a script that counts for a key: the last one that wasn't refused, if it wrote.
func last(script []call, k api.Key) (call, bool) {
	for _, c := range slices.Backward(script) {
		if c.key == k && c.fails() == api.OK {
			return c, c.kind != 'f'
		}
	}
	return call{}, false
}

// does does one call, behind those of the script, and fails unless it answers as it must.
func (c call) does(t *testing.T, s *Set, script []call) {
	switch c.kind {
	case 'p':
		puts(t, s, c.key, c.v, c.fails())
	case 'd':
		deletes(t, s, c.key, c.fails())
	case 'f':
		_, there := last(script, c.key)
		forgets(t, s, c.key, there)
	}
}

// text is a key as text, by which keys stand in order here: no byte of a key is below the one between.
func text(k api.Key) string { return k.Type + "\x00" + k.ID }

// over is Over spelt out: key by key, in order.
func over(script []call, keys []api.Key, found []api.Found, typ string, takes func(v []api.Field) bool) []api.Found {
	keys = slices.Clone(keys)
	slices.SortFunc(keys, func(a, b api.Key) int { return strings.Compare(text(a), text(b)) })
	var l []api.Found
	for _, k := range slices.Compact(keys) {
		c, there := last(script, k)
		if there && c.kind == 'p' && k.Type == typ && takes(c.v) {
			l = append(l, fresh(k, c.v))
		}
		for _, f := range found {
			if f.Key == k && !there {
				l = append(l, f)
			}
		}
	}
	return l
}

// asks fails unless all that a set tells is what the script says.
func asks(t *testing.T, s *Set, script []call) {
	var there []api.Key
	for _, k := range append(slices.Clone(someKeys), key("b", "b"), key("A", "/"), key("C", "a")) {
		c, written := last(script, k)
		gets(t, s, k, c.v, written && c.kind == 'p', written)
		if written {
			there = append(there, k)
		}
	}
	has(t, s, there...)
	a, b := numbered(someKeys[1], 1), numbered(someKeys[0], 2)
	for _, found := range [][]api.Found{nil, {a, numbered(key("C", "a"), 4), b, numbered(someKeys[1], 3)}, {numbered(someKeys[2], 1), b}} {
		keys := append(slices.Clone(someKeys), key("C", "a"))
		for _, typ := range []string{"A", "B", "C"} {
			lays(t, s, found, typ, nil, over(script, keys, found, typ, func([]api.Field) bool { return true })...)
			lays(t, s, found, typ, []api.Term{is("n", "y")}, over(script, keys, found, typ, func(v []api.Field) bool { return len(v) == 2 })...)
		}
	}
}

// TestScripts: every script of up to three calls answers as spelt out, at each of its ends.
func TestScripts(t *testing.T) {
	var on func(script []call)
	on = func(script []call) {
		s := New()
		for n, c := range script {
			c.does(t, s, script[:n])
		}
		asks(t, s, script)
		if t.Failed() {
			t.Fatal(script)
		}
		if len(script) == 3 {
			return
		}
		for _, c := range calls() {
			on(append(script[:len(script):len(script)], c))
		}
	}
	on(nil)
}

// TestLongScript: many calls in a row on one set.
func TestLongScript(t *testing.T) {
	s := New()
	var script []call
	all, seed := calls(), uint32(1)
	for n := range 1500 {
		seed = seed*1664525 + 1013904223
		c := all[int(seed>>8)%len(all)]
		c.does(t, s, script)
		script = append(script, c)
		asks(t, s, script)
		if t.Failed() {
			t.Fatal(n)
		}
	}
}

// TestManyKeys: the order of Keys and Over doesn't hang on the map's.
func TestManyKeys(t *testing.T) {
	s := New()
	var keys []api.Key
	var want []api.Found
	for n := range 200 {
		k := key("A", string([]byte{'a' + byte(n/26), 'a' + byte(n%26)}))
		keys = append(keys, k)
		switch n % 3 {
		case 0:
			want = append(want, fresh(k, nil))
		case 1:
			want = append(want, numbered(k, 1), numbered(k, 3), numbered(k, 2))
		}
	}
	var found []api.Found
	for _, number := range []int{1, 3, 2} {
		for _, n := range []int{1, 0, 2} {
			for m := 198 + n; m >= 0; m -= 3 {
				if m < 200 {
					found = append(found, numbered(keys[m], number))
				}
			}
		}
	}
	for n := range 200 {
		switch k := keys[n*7%200]; n * 7 % 200 % 3 {
		case 0:
			puts(t, s, k, nil, api.OK)
		case 2:
			deletes(t, s, k, api.OK)
		}
	}
	for range 20 {
		lays(t, s, found, "A", nil, want...)
	}
	if got := s.Keys(); len(got) != 133 || !slices.IsSortedFunc(got, func(a, b api.Key) int { return strings.Compare(text(a), text(b)) }) {
		t.Error(len(got), got)
	}
}
