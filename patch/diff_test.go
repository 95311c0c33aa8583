package patch

import (
	"slices"
	"testing"

	"folio/api"
	"folio/value"
)

// diffed is what Diff should answer to two normal values, spelt out: both are gone through side by side.
func diffed(a, b []api.Field) ([]api.Edit, api.Errno) {
	var l []api.Edit
	for len(a) > 0 || len(b) > 0 {
		switch {
		case len(b) == 0 || len(a) > 0 && a[0].Name < b[0].Name:
			l = append(l, wipe(a[0].Name))
			a = a[1:]
			continue
		case len(a) > 0 && a[0].Name == b[0].Name:
			if slices.Equal(a[0].Texts, b[0].Texts) {
				a, b = a[1:], b[1:]
				continue
			}
			a = a[1:]
		}
		for i, text := range b[0].Texts {
			kind := api.EdAdd
			if i == 0 {
				kind = api.EdSet
			}
			l = append(l, other(kind, b[0].Name, text))
		}
		b = b[1:]
	}
	if len(l) > api.MaxEdits {
		return nil, api.ErrLong
	}
	return l, api.OK
}

func TestDiffExamples(t *testing.T) {
	v := row(one("a", "x", "y", "x"), one("b", "1"))
	for _, x := range []struct {
		a, b []api.Field
		want []api.Edit
	}{
		{v, row(one("b", "1"), one("c", "2", "3")), edits(wipe("a"), set("c", "2"), add("c", "3"))},
		{v, v, nil},
		{nil, nil, nil},
		{nil, row(), nil},
		{v, nil, edits(wipe("a"), wipe("b"))},
		{nil, v, edits(set("a", "x"), add("a", "y"), add("a", "x"), set("b", "1"))},
		// Other texts, fewer, more, or in another order: all of them anew.
		{v, row(one("a", "x", "x", "y"), one("b", "1")), edits(set("a", "x"), add("a", "x"), add("a", "y"))},
		{v, row(one("a", "x", "y"), one("b", "1")), edits(set("a", "x"), add("a", "y"))},
		{v, row(one("a", "x", "y", "x", "z"), one("b", "1")), edits(set("a", "x"), add("a", "y"), add("a", "x"), add("a", "z"))},
		{v, row(one("a", "x", "y", "x"), one("b", "")), edits(set("b", ""))},
		{v, row(one("a", "x", "y", "x"), one("b", "1", "")), edits(set("b", "1"), add("b", ""))},
		{row(one("a", "xy")), row(one("a", "x", "y")), edits(set("a", "x"), add("a", "y"))},
		// In the order of the names, whichever value has them.
		{row(one("a", "1"), one("c", "1"), one("e", "1")), row(one("b", "1"), one("d", "1"), one("f", "1")), edits(wipe("a"), set("b", "1"), wipe("c"), set("d", "1"), wipe("e"), set("f", "1"))},
		{row(one("b", "1"), one("d", "1")), row(one("a", "1"), one("c", "1"), one("d", "2")), edits(set("a", "1"), wipe("b"), set("c", "1"), set("d", "2"))},
		{row(one("aa", "1")), row(one("a", "1"), one("aA", "1"), one("aB", "1")), edits(set("a", "1"), set("aA", "1"), set("aB", "1"), wipe("aa"))},
	} {
		if l, e := Diff(x.a, x.b); !slices.Equal(l, x.want) || e != api.OK {
			t.Errorf("Diff(%q, %q): %#v, %v; want %#v", x.a, x.b, l, e, x.want)
		}
	}
	if l, e := Diff(v, row(one("b", "1"), one("c", "2", "3"))); e != api.OK {
		t.Error(e)
	} else if s, _ := Print(l); s != "a~ c:=2 c+=3" {
		t.Error(s)
	}
}

// TestDiffLimit: as many edits as there may be, and one more.
func TestDiffLimit(t *testing.T) {
	two := row(one("a", some(api.MaxTexts)...), one("b", some(api.MaxTexts)...))
	for _, x := range []struct {
		a, b []api.Field
		n    int
	}{
		{nil, wide(api.MaxFields), api.MaxEdits},
		{wide(api.MaxFields), nil, api.MaxEdits},
		{wide(api.MaxFields), wide(api.MaxFields), 0},
		{full(), full(), 0},
		{nil, two, api.MaxEdits},
		{row(one("c", "x")), two, 0},
		{row(one("c", "x")), row(one("a", some(api.MaxTexts)...), one("b", some(api.MaxTexts-1)...)), api.MaxEdits},
		{row(one("a", "x")), wide(api.MaxFields), 0},
		{row(one("a", "x")), wide(api.MaxFields - 1), api.MaxEdits},
		{wide(api.MaxFields), row(one("a", "x")), 0},
		{wide(api.MaxFields - 1), row(one("a", "x")), api.MaxEdits},
		{full(), nil, api.MaxFields},
		{nil, full(), 0},
		{full(), wide(api.MaxFields), 0},
		{nil, full()[:2], 2 * api.MaxTexts},
		{full()[3:], full()[1:], 2 * api.MaxTexts},
	} {
		l, e := Diff(x.a, x.b)
		want := api.OK
		if x.n == 0 && !sameValue(x.a, x.b) {
			want = api.ErrLong
		}
		if len(l) != x.n || e != want {
			t.Errorf("Diff(%q, %q): %#v, %v; want %d edits, %v", x.a, x.b, l, e, x.n, want)
		}
		if e == api.OK {
			applies(t, x.a, l, x.b, api.OK)
		}
	}
}

func TestDiffErrors(t *testing.T) {
	for _, v := range notNormal() {
		for _, w := range append(notNormal(), nil, row(one("a", "x")), wide(api.MaxFields), full()) {
			if l, e := Diff(v, w); len(l) != 0 || e != api.ErrField {
				t.Errorf("Diff(%q, %q): %#v, %v", v, w, l, e)
			}
			if l, e := Diff(w, v); len(l) != 0 || e != api.ErrField {
				t.Errorf("Diff(%q, %q): %#v, %v", w, v, l, e)
			}
		}
	}
}

// smalls are all values of up to 3 fields, with up to 2 texts each.
func smalls() [][]api.Field {
	all := [][]api.Field{nil}
	for _, name := range []string{"a", "b", "c"} {
		var more [][]api.Field
		for _, v := range all {
			more = append(more, v)
			for _, texts := range [][]string{{"x"}, {"y"}, {""}, {"x", "x"}, {"x", "y"}, {"y", "x"}} {
				more = append(more, append(slices.Clone(v), one(name, texts...)))
			}
		}
		all = more
	}
	return all
}

// TestDiffAndApply is P8.2: Apply(a, Diff(a, b)) is b, for all pairs of small values.
func TestDiffAndApply(t *testing.T) {
	all := smalls()
	for _, a := range all {
		for _, b := range all {
			want, _ := diffed(a, b)
			l, e := Diff(a, b)
			if !slices.Equal(l, want) || e != api.OK {
				t.Fatalf("Diff(%q, %q): %#v, %v; want %#v", a, b, l, e, want)
			}
			if May(l) != api.OK {
				t.Fatalf("Diff(%q, %q): %#v may not be", a, b, l)
			}
			applies(t, a, l, b, api.OK)
		}
	}
}

// TestDiffOfGreat is P8.2 for values around the limits, whose names are mixed.
func TestDiffOfGreat(t *testing.T) {
	var n numbers = 2
	texts := append(some(3), "", long(api.MaxText), "\xff\x00 =")
	within := 0
	for range 20000 {
		var a, b []api.Field
		for i := range 20 {
			name := "f" + string(rune('A'+i))
			for _, v := range []*[]api.Field{&a, &b} {
				if len(*v) == api.MaxFields || n.below(3) == 0 {
					continue
				}
				f := one(name)
				for range 1 + n.below(2)*n.below(api.MaxTexts) {
					f.Texts = append(f.Texts, texts[n.below(len(texts))])
				}
				*v = append(*v, f)
			}
			// Often the same in both, so that the edits are few enough.
			if len(b) < api.MaxFields && n.below(4) > 0 {
				b = slices.DeleteFunc(b, func(f api.Field) bool { return f.Name == name })
				if len(a) > 0 && a[len(a)-1].Name == name {
					b = append(b, a[len(a)-1])
				}
			}
		}
		if !value.May(a) || !value.May(b) {
			t.Fatal("the test's own values are not normal")
		}
		want, e := diffed(a, b)
		l, f := Diff(a, b)
		if !slices.Equal(l, want) || e != f {
			t.Fatalf("Diff(%q, %q): %#v, %v; want %#v, %v", a, b, l, f, want, e)
		}
		if f == api.OK {
			within++
			applies(t, a, l, b, api.OK)
		}
	}
	if within < 2000 || within > 18000 {
		t.Error("too few on one side to say anything:", within)
	}
}
