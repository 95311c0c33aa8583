package refs

import (
	"fmt"
	"slices"
	"testing"

	"folio/api"
)

// allBinds binds all temporary names of someTexts, and one more.
func allBinds() []api.Bind {
	l := binds(bind("unused", "U", "u"))
	for i, text := range someTexts() {
		if n, found := asTemp(text); found {
			l = append(l, bind(n, "Bound", fmt.Sprint("b", i%4)))
		}
	}
	return l
}

// TestResolve is P5.1 and P5.2 for Resolve: each temporary reference is the key's, all else stays.
func TestResolve(t *testing.T) {
	l := allBinds()
	for _, v := range someValues() {
		want := mapped(v, func(text string) string {
			n, found := asTemp(text)
			if !found {
				return text
			}
			b := l[slices.IndexFunc(l, func(b api.Bind) bool { return b.Name == n })]
			return "*" + b.Key.Type + "/" + b.Key.ID
		})
		got, e := Resolve(v, l)
		if !same(got, want) || e != api.OK {
			t.Fatalf("Resolve(%q): %q, %v", v, got, e)
		}
		if left := Temps(got); len(left) > 0 {
			t.Fatalf("behind Resolve(%q): %q", v, left)
		}
		if again, e := Resolve(got, nil); !same(again, got) || e != api.OK {
			t.Fatalf("Resolve again: %q, %v", again, e)
		}
	}
}

// TestResolveNeedsAll: each name that stands in the value must be among binds, and no other.
func TestResolveNeedsAll(t *testing.T) {
	l := allBinds()
	for _, v := range someValues() {
		needed := Temps(v)
		for i, b := range l {
			fewer := slices.Delete(slices.Clone(l), i, i+1)
			got, e := Resolve(v, fewer)
			if slices.Contains(needed, b.Name) {
				if len(got) != 0 || e != api.ErrTemp {
					t.Errorf("Resolve(%q) without %q: %q, %v", v, b.Name, got, e)
				}
			} else if e != api.OK {
				t.Errorf("Resolve(%q) without %q: %v", v, b.Name, e)
			}
		}
		if _, e := Resolve(v, nil); (e == api.OK) != (len(needed) == 0) {
			t.Errorf("Resolve(%q) by none: %v", v, e)
		}
	}
	// Names are compared as bytes: x is not X.
	if _, e := Resolve(row(one("a", "*@x")), binds(bind("X", "A", "b"))); e != api.ErrTemp {
		t.Error(e)
	}
}

// TestResolveErrors: a wrong bind counts ahead of a double, a double ahead of a name that is missing, wherever they stand.
func TestResolveErrors(t *testing.T) {
	x, other, y := bind("x", "A", "b"), bind("x", "B", "c"), bind("y", "A", "b")
	var wrong []api.Bind
	for _, n := range wrongNames() {
		wrong = append(wrong, bind(n, "A", "b"))
	}
	for _, k := range wrongKeys() {
		wrong = append(wrong, api.Bind{Name: "x", Key: k}, api.Bind{Name: "unused", Key: k})
	}
	for _, v := range [][]api.Field{nil, example(), row(one("a", "*@x", "*@z"))} {
		for _, b := range wrong {
			for _, l := range [][]api.Bind{{b}, {b, b}, {x, b}, {b, x}, {x, x, b}, {b, x, x}, {x, b, x}, {x, y, b}} {
				if got, e := Resolve(v, l); len(got) != 0 || e != api.ErrName {
					t.Errorf("Resolve(%q, %q): %q, %v", v, l, got, e)
				}
			}
		}
		for _, l := range [][]api.Bind{{x, x}, {x, other}, {other, x}, {x, y, x}, {y, x, other}, {y, y}, {x, y, y}} {
			if got, e := Resolve(v, l); len(got) != 0 || e != api.ErrTwice {
				t.Errorf("Resolve(%q, %q): %q, %v", v, l, got, e)
			}
		}
	}
	// Two names may stand for one key.
	if got, e := Resolve(example(), binds(x, y)); e != api.OK || got[0].Texts[1] != "*A/b" || got[1].Texts[0] != "*A/b" {
		t.Errorf("%q, %v", got, e)
	}
}

// TestResolveAnyOrder is P5.3: all orders of binds answer the same, errors too.
func TestResolveAnyOrder(t *testing.T) {
	x, y, z := bind("x", "A", "b"), bind("y", "Patient", "p1"), bind("z", "Z", "z")
	for _, l := range [][]api.Bind{
		{x, y, z}, {x, z}, {y, z}, {x, y, bind("x", "B", "c")}, {x, y, bind("", "A", "b")}, {x, x, bind("z", "z", "z")}, {x, y, z, bind("w", "W", "w")},
	} {
		want, wantError := Resolve(example(), l)
		orders(l, func(l []api.Bind) {
			if got, e := Resolve(example(), l); !same(got, want) || e != wantError {
				t.Errorf("Resolve by %q: %q, %v", l, got, e)
			}
		})
	}
}

// orders hands all orders of a list to do.
func orders(l []api.Bind, do func([]api.Bind)) {
	if len(l) < 2 {
		do(l)
		return
	}
	for i := range l {
		rest := slices.Delete(slices.Clone(l), i, i+1)
		orders(rest, func(behind []api.Bind) { do(append(binds(l[i]), behind...)) })
	}
}

// TestRename is P5.1 and P5.2 for Rename.
func TestRename(t *testing.T) {
	keys := []api.Key{key("A", "b"), key("Patient", "p1"), key("A", "a"), key("B", "a"), key("Z", "z"), key("T"+long("t", api.MaxName-1), long("-", api.MaxName))}
	for _, v := range someValues() {
		for _, from := range keys {
			for _, to := range keys {
				want := mapped(v, func(text string) string {
					if k, found := asKey(text); found && k == from {
						return "*" + to.Type + "/" + to.ID
					}
					return text
				})
				got, e := Rename(v, from, to)
				if !same(got, want) || e != api.OK {
					t.Fatalf("Rename(%q, %q, %q): %q, %v", v, from, to, got, e)
				}
				if from != to && Points(got, from) || Points(v, from) && !Points(got, to) {
					t.Fatalf("behind Rename(%q, %q, %q): %q", v, from, to, got)
				}
			}
		}
	}
}

func TestRenameErrors(t *testing.T) {
	good := key("A", "b")
	for _, v := range someValues() {
		for _, k := range wrongKeys() {
			for _, x := range [][2]api.Key{{k, good}, {good, k}, {k, k}, {k, {}}} {
				if got, e := Rename(v, x[0], x[1]); len(got) != 0 || e != api.ErrName {
					t.Errorf("Rename(%q, %q): %q, %v", v, x, got, e)
				}
			}
		}
	}
}
