package pred

import (
	"slices"
	"testing"

	"folio/api"
)

// spare stands in the spare room of what is handed in.
var spare = api.Term{Field: "spare", Op: 77, Text: "left"}

// roomy is a predicate with spare room behind it, filled with what must stay.
func roomy(p []api.Term) []api.Term {
	return append(slices.Clone(p), spare, spare, spare)[:len(p)]
}

// untouched fails unless p, which roomy made of was, is as it was, spare room too.
func untouched(t *testing.T, what string, p, was []api.Term) {
	t.Helper()
	if !same(p, was) || !same(p[:len(p)+3], append(slices.Clone(was), spare, spare, spare)) {
		t.Fatalf("%s: changed to %#v; was %#v", what, p[:len(p)+3], was)
	}
}

// spoil overwrites all that a list has, spare room too.
func spoil(p []api.Term) {
	for i := range p[:cap(p)] {
		p[:cap(p)][i] = api.Term{Field: "spoilt", Op: 99, Text: "spoilt"}
	}
}

// TestArgumentsStay is R3: no call changes the predicate or the value that it is handed, and what is answered can be changed without changing it.
func TestArgumentsStay(t *testing.T) {
	l := normals()
	for _, x := range unlikes() {
		l = append(l, x.p)
	}
	texts := []string{"x", "mrn|7", "left"}
	v := row(one("a", texts[:2]...), one("b", "1"), one("spare", "left"))[:2]
	for _, was := range l {
		p := roomy(was)
		got, _ := Norm(p)
		untouched(t, "Norm", p, was)
		spoil(got)
		untouched(t, "Norm's answer", p, was)
		May(p)
		Print(p)
		Equal(p, p)
		Never(p)
		Match(p, v)
		untouched(t, "the others", p, was)
	}
	if !slices.Equal(texts, []string{"x", "mrn|7", "left"}) || v[0].Name != "a" || !slices.Equal(v[1].Texts, []string{"1"}) || v[:3][2].Name != "spare" {
		t.Errorf("the value changed to %#v", v[:3])
	}
}

// TestAnswersAreApart is R3: two answers to one question share nothing.
func TestAnswersAreApart(t *testing.T) {
	for _, p := range normals() {
		first, _ := Norm(p)
		second, _ := Norm(p)
		spoil(first)
		if !same(second, p) {
			t.Fatalf("Norm(%#v): the second answer changed with the first", p)
		}
		first, _ = Parse(line(p))
		second, _ = Parse(line(p))
		spoil(first)
		if !same(second, p) {
			t.Fatalf("Parse(%#v): the second answer changed with the first", line(p))
		}
	}
}
