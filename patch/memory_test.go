package patch

import (
	"slices"
	"testing"

	"folio/api"
)

// What stands in the spare room of what is handed in.
const (
	spareName = "spare"
	spareText = "left"
)

// roomy is a value with spare room behind each of its lists, filled with what must stay.
func roomy(v []api.Field) []api.Field {
	var own []api.Field
	for _, f := range v {
		own = append(own, one(f.Name, append(slices.Clone(f.Texts), spareText, spareText, spareText)[:len(f.Texts)]...))
	}
	spare := one(spareName, spareText)
	return append(own, spare, spare, spare)[:len(v)]
}

// roomyEdits is a list of edits with spare room, likewise.
func roomyEdits(l []api.Edit) []api.Edit {
	spare := set(spareName, spareText)
	return append(slices.Clone(l), spare, spare, spare)[:len(l)]
}

// untouched fails unless v, which roomy made of was, is as it was, spare room too.
func untouched(t *testing.T, what string, v, was []api.Field) {
	t.Helper()
	spare := one(spareName, spareText)
	ok := sameValue(v, was) && sameValue(v[len(v):len(v)+3], row(spare, spare, spare))
	for _, f := range v {
		ok = ok && slices.Equal(f.Texts[len(f.Texts):len(f.Texts)+3], []string{spareText, spareText, spareText})
	}
	if !ok {
		t.Fatalf("%s: changed to %q; was %q", what, v, was)
	}
}

// untouchedEdits fails unless l, which roomyEdits made of was, is as it was, spare room too.
func untouchedEdits(t *testing.T, what string, l, was []api.Edit) {
	t.Helper()
	if !slices.Equal(l[:len(l)+3], append(slices.Clone(was), set(spareName, spareText), set(spareName, spareText), set(spareName, spareText))) {
		t.Fatalf("%s: changed to %#v; was %#v", what, l[:len(l)+3], was)
	}
}

// spoilTexts overwrites all that a list has, spare room too.
func spoilTexts(l []string) {
	for i := range l[:cap(l)] {
		l[:cap(l)][i] = "spoilt"
	}
}

// spoil overwrites all that a value's lists have, spare room too, and what lies in it.
func spoil(v []api.Field) {
	all := v[:cap(v)]
	for i := range all {
		spoilTexts(all[i].Texts)
		all[i] = one("spoilt", "spoilt")
	}
}

func spoilEdits(l []api.Edit) {
	for i := range l[:cap(l)] {
		l[:cap(l)][i] = other(99, "spoilt", "spoilt")
	}
}

// apart fails if two lists of a value share memory, by spoiling all others around each.
func apart(t *testing.T, answer func() []api.Field) {
	t.Helper()
	for i := range answer() {
		v := answer()
		was := slices.Clone(v[i].Texts)
		for j, f := range v[:cap(v)] {
			if i != j {
				spoilTexts(f.Texts)
			}
		}
		if !slices.Equal(v[i].Texts, was) {
			t.Fatalf("the texts of two fields share memory: %q", v)
		}
	}
}

// someEdits are lists that are done, refused, too long, or may not be.
func someEdits() [][]api.Edit {
	return [][]api.Edit{
		nil,
		edits(set("a", "z")),
		edits(add("a", "z")),
		edits(add("a", "z"), add("b", "z"), add("c", "z"), add("c", "y")),
		edits(drop("b", "x")),
		edits(drop("b", "x"), drop("b", "y"), add("b", "x")),
		edits(wipe("a"), wipe("b"), set("b", "1"), add("b", "2"), wipe("c")),
		edits(test("b", "x"), test("b", "y")),
		edits(set("a", "1"), set("aa", "2"), set("ab", "3"), set("d", "4"), wipe("a"), wipe("aa")),
		edits(add("b", "z"), drop("b", "q")),
		edits(wipe("b"), test("b", "x")),
		edits(set("b", "z"), set("A", "z")),
		edits(set("b", "z"), other(0, "b", "z")),
		slices.Repeat(edits(add("b", "z")), api.MaxEdits),
		many(api.MaxEdits),
		many(api.MaxEdits + 1),
	}
}

// TestArgumentsStay is R3: no call changes what it is handed, done or refused, and what is answered can be changed without changing it.
func TestArgumentsStay(t *testing.T) {
	for _, was := range append(append(starts(), notNormal()...), full()) {
		v := roomy(was)
		for _, wasEdits := range someEdits() {
			l := roomyEdits(wasEdits)
			got, _ := Apply(v, l)
			untouched(t, "Apply", v, was)
			spoil(got)
			untouched(t, "Apply's answer", v, was)
			May(l)
			Print(l)
			untouchedEdits(t, "Apply, May and Print", l, wasEdits)
		}
		for _, wasTo := range append(starts(), full()) {
			to := roomy(wasTo)
			l, _ := Diff(v, to)
			spoilEdits(l)
			untouched(t, "Diff", v, was)
			untouched(t, "Diff", to, wasTo)
		}
	}
}

// TestAnswersAreApart is R3: no two lists of an answer share memory, and no two answers do.
func TestAnswersAreApart(t *testing.T) {
	shared := []string{"x", "y", "x", "y"}
	for _, v := range append(starts(), row(one("a", shared[:2]...), one("b", shared[:2]...), one("c", shared[1:3]...))) {
		for _, l := range someEdits() {
			answer := func() []api.Field {
				got, _ := Apply(v, l)
				return got
			}
			apart(t, answer)
			first, second := answer(), answer()
			want := partsOf(second)
			spoil(first)
			if got, _ := want.value(); !sameValue(second, got) {
				t.Fatalf("Apply(%q, %#v): the second answer changed with the first", v, l)
			}
		}
		for _, w := range starts() {
			first, _ := Diff(v, w)
			second, _ := Diff(v, w)
			was := slices.Clone(second)
			spoilEdits(first)
			if !slices.Equal(second, was) {
				t.Fatalf("Diff(%q, %q): the second answer changed with the first", v, w)
			}
		}
	}
	for _, l := range goods() {
		first, _ := Parse(line(l))
		second, _ := Parse(line(l))
		spoilEdits(first)
		if !slices.Equal(second, l) {
			t.Fatalf("Parse(%q): the second answer changed with the first", line(l))
		}
	}
	if !slices.Equal(shared, []string{"x", "y", "x", "y"}) {
		t.Errorf("the texts that were handed in are %q", shared)
	}
}
