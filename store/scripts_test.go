package store

import (
	"testing"

	"folio/api"
)

// draw draws numbers that are the same in each run.
type draw struct{ seed uint64 }

func (d *draw) below(n int) int {
	d.seed = d.seed*6364136223846793005 + 1442695040888963407
	return int((d.seed >> 33) % uint64(n))
}

func pick[T any](d *draw, l []T) T { return l[d.below(len(l))] }

func key(typ, id string) api.Key { return api.Key{Type: typ, ID: id} }

func one(name string, texts ...string) api.Field { return api.Field{Name: name, Texts: texts} }

func fields(l ...api.Field) []api.Field { return l }

func terms(l ...api.Term) []api.Term { return l }

func is(field, text string) api.Term { return api.Term{Field: field, Op: api.OpIs, Text: text} }

// drawnKeys are keys that may be, and some that may not.
func drawnKeys() []api.Key {
	a, b, c := key("A", "a"), key("A", "b"), key("B", "a")
	return []api.Key{a, a, a, a, b, b, b, c, c, key("A", "c"), key("a", "b"), key("A", "")}
}

// drawnValues are normal values, and some that are not.
func drawnValues() [][]api.Field {
	x, y := fields(one("n", "x")), fields(one("n", "y"))
	return [][]api.Field{nil, x, x, x, y, y, fields(one("n", "y", "x"), one("o", "1")), fields(one("n")), fields(one("o", "1"), one("n", "x"))}
}

// drawnPreds are predicates that are normal, that aren't, and that may not be.
func drawnPreds() [][]api.Term {
	x, has := is("n", "x"), api.Term{Field: "n", Op: api.OpHas}
	return [][]api.Term{nil, nil, terms(x), terms(x), terms(x, x), terms(has, x), terms(x, has), terms(is("n", "y")), terms(api.Term{Field: "o", Op: api.OpLacks}), terms(api.Term{Field: "n"}), terms(is("", "x"))}
}

// drawnKinds are the kinds of calls, each as often as it is to be drawn among the others.
func drawnKinds() []int {
	often := map[int]int{cBegin: 6, cTick: 1, cVacuum: 2, cRead: 4, cScan: 4, cPut: 8, cDelete: 3, cDrop: 1, cAt: 2, cFind: 2, cHistory: 1, cSince: 1, cNumber: 2, cCommit: 9, cGive: 1}
	var l []int
	for kind := range cKinds {
		for range often[kind] {
			l = append(l, kind)
		}
	}
	return l
}

// drawnStamps are stamps about first, and both ends.
func drawnStamps(first uint64) []uint64 {
	l := []uint64{0, api.MaxStamp}
	for n := range uint64(12) {
		l = append(l, first+n-2)
	}
	return l
}

// drawn is a script of so many calls, with the first one a Begin.
func drawn(d *draw, first uint64, calls int) []call {
	keys, values, preds, kinds, stamps := drawnKeys(), drawnValues(), drawnPreds(), drawnKinds(), drawnStamps(first)
	script := []call{{kind: cBegin}}
	begun := 1
	for len(script) < calls {
		c := call{
			kind:  pick(d, kinds),
			txn:   max(0, begun-1-d.below(4)),
			key:   pick(d, keys),
			typ:   pick(d, []string{"A", "A", "A", "A", "B", "B", "", "a"}),
			pred:  pick(d, preds),
			value: pick(d, values),
			at:    pick(d, stamps),
			n:     int64(d.below(6) - 1),
		}
		if c.kind == cBegin {
			begun++
		}
		script = append(script, c)
	}
	return script
}

// drawnConfigs are configurations with little room and with much, from the first stamp to the last one.
func drawnConfigs() []api.Config {
	var l []api.Config
	for _, versions := range []int{1, 3, 8, api.MaxVersions} {
		for _, tracked := range []int{0, 1, 2, api.MaxTracked} {
			for _, first := range []uint64{0, 5, api.MaxStamp - 3, api.MaxStamp} {
				l = append(l, api.Config{Versions: versions, Tracked: tracked, Tries: 1, First: first})
			}
		}
	}
	return l
}

// Long scripts of all calls answer as a store spelt out does: P15.1.
func TestDrawnScripts(t *testing.T) {
	d := &draw{seed: 15}
	keys := []api.Key{key("A", "a"), key("A", "b"), key("A", "c"), key("B", "a"), key("a", "b")}
	for _, c := range drawnConfigs() {
		for range 40 {
			follow(t, c, drawn(d, c.First, 60), keys, drawnStamps(c.First))
		}
	}
}

// few are calls of two transactions, and of the store, over two keys.
func few() []call {
	a, b, x := key("A", "a"), key("A", "b"), fields(one("n", "x"))
	l := []call{{kind: cVacuum}, {kind: cBegin}, {kind: cTick, n: 1}}
	for txn := range 2 {
		l = append(l,
			call{kind: cRead, txn: txn, key: a},
			call{kind: cScan, txn: txn, typ: "A", pred: terms(is("n", "x"))},
			call{kind: cPut, txn: txn, key: a, value: x},
			call{kind: cPut, txn: txn, key: b},
			call{kind: cDelete, txn: txn, key: a},
			call{kind: cDelete, txn: txn, key: b},
			call{kind: cNumber, txn: txn, key: a, n: 2},
			call{kind: cHistory, txn: txn, key: a, at: 1},
			call{kind: cCommit, txn: txn},
			call{kind: cGive, txn: txn})
	}
	return l
}

// All scripts of three calls of two transactions, behind a commit of one key, answer as a store spelt out does: P15.1.
func TestShortScripts(t *testing.T) {
	keys, stamps := []api.Key{key("A", "a"), key("A", "b")}, []uint64{0, 1, 2, 3, 9}
	c := api.Config{Versions: 3, Tracked: 1, Tries: 1}
	ahead := []call{{kind: cBegin}, {kind: cPut, key: key("A", "a")}, {kind: cCommit}, {kind: cBegin}, {kind: cBegin}}
	later := func(c call) call {
		c.txn++
		return c
	}
	for _, first := range few() {
		for _, second := range few() {
			for _, third := range few() {
				script := append(ahead[:len(ahead):len(ahead)], later(first), later(second), later(third), call{kind: cCommit, txn: 1}, call{kind: cCommit, txn: 2}, call{kind: cVacuum})
				follow(t, c, script, keys, stamps)
			}
		}
	}
}
