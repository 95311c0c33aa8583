package value

import (
	"bytes"
	"slices"
	"testing"

	"folio/api"
)

const (
	spareName = "spare"
	spareText = "left"
)

// roomy is a value with spare room behind each of its lists, filled with what must stay.
func roomy(v []api.Field) []api.Field {
	own := make([]api.Field, 0, len(v)+3)
	for _, f := range v {
		texts := make([]string, 0, len(f.Texts)+3)
		texts = append(append(texts, f.Texts...), spareText, spareText, spareText)
		own = append(own, api.Field{Name: f.Name, Texts: texts[:len(f.Texts)]})
	}
	spare := one(spareName, spareText)
	return append(own, spare, spare, spare)[:len(v)]
}

// untouched fails unless v, which roomy made of was, is as it was, spare room too.
func untouched(t *testing.T, what string, v, was []api.Field) {
	t.Helper()
	if !same(v, was) {
		t.Fatalf("%s: changed to %q; was %q", what, v, was)
	}
	for _, f := range v {
		for _, text := range f.Texts[len(f.Texts):cap(f.Texts)] {
			if text != spareText {
				t.Fatalf("%s: the spare room of %q has %q", what, f.Texts, text)
			}
		}
	}
	for _, f := range v[len(v):cap(v)] {
		if f.Name != spareName || len(f.Texts) != 1 || f.Texts[0] != spareText {
			t.Fatalf("%s: the spare room has %q", what, f)
		}
	}
}

// spoil overwrites all that a value's lists have, spare room too.
func spoil(v []api.Field) {
	for _, f := range v[:cap(v)] {
		spoilTexts(f.Texts)
	}
	for i := range v[:cap(v)] {
		v[:cap(v)][i] = one("spoilt", "spoilt")
	}
}

func spoilTexts(l []string) {
	for i := range l[:cap(l)] {
		l[:cap(l)][i] = "spoilt"
	}
}

// apart fails if two lists of a value share memory, by spoiling one after the other.
func apart(t *testing.T, v []api.Field) {
	t.Helper()
	for i := range v {
		was := slices.Clone(v[i].Texts)
		for j := range v {
			if i != j {
				spoilTexts(v[j].Texts)
			}
		}
		if !slices.Equal(v[i].Texts, was) {
			t.Fatalf("the texts of two fields share memory: %q", v)
		}
		spoilTexts(v[i].Texts)
	}
	spoil(v)
}

// copied is a value in lists of its own.
func copied(v []api.Field) []api.Field {
	var own []api.Field
	for _, f := range v {
		own = append(own, one(f.Name, slices.Clone(f.Texts)...))
	}
	return own
}

// allValues are those that are normal and those that are not.
func allValues() [][]api.Field {
	l := normals()
	for _, x := range unlikes() {
		l = append(l, x.v)
	}
	return l
}

// TestArgumentsStay is R3: no call changes the value that it is handed, and what is answered can be changed without changing it.
func TestArgumentsStay(t *testing.T) {
	for _, was := range allValues() {
		v := roomy(was)
		got, _ := Norm(v)
		untouched(t, "Norm", v, was)
		spoil(got)
		untouched(t, "Norm's answer", v, was)

		b, _ := Encode(v)
		for i := range b[:cap(b)] {
			b[:cap(b)][i] = 'x'
		}
		untouched(t, "Encode", v, was)

		for _, f := range was {
			spoilTexts(Texts(v, f.Name))
			untouched(t, "Texts", v, was)
		}
		May(v)
		Size(v)
		Print(v)
		Equal(v, v)
		untouched(t, "the others", v, was)
	}
}

// TestNormIsApart is R3: each list of Norm's answer is one of its own, though the arguments share theirs.
func TestNormIsApart(t *testing.T) {
	shared := []string{"1", "2", "3", "4", "5", "6"}
	for _, v := range [][]api.Field{
		row(one("a", shared[:2]...), one("b", shared[:2]...), one("c", shared[1:3]...)),
		row(one("b", shared[:2]...), one("a", shared[2:4]...), one("b", shared[4:]...)),
		row(one("b", shared[:1]...), one("b", shared[:2]...), one("b", shared[:1]...), one("a", shared[:3]...)),
	} {
		got, e := Norm(v)
		if e != api.OK {
			t.Fatal(e)
		}
		again := copied(got)
		apart(t, got)
		if !slices.Equal(shared, []string{"1", "2", "3", "4", "5", "6"}) {
			t.Fatalf("the texts that were handed in are %q", shared)
		}
		if got, _ := Norm(v); !same(got, again) {
			t.Fatalf("Norm(%q): %q; it was %q", v, got, again)
		}
	}
}

// TestDecodeIsApart is R3: the bytes stay, their spare room too, and the value doesn't change with them.
func TestDecodeIsApart(t *testing.T) {
	for _, v := range allValues() {
		start := laid(v)
		b := append(slices.Clone(start), "spare room"...)
		got, e := Decode(b[:len(start)])
		if !bytes.Equal(b, append(slices.Clone(start), "spare room"...)) {
			t.Fatalf("Decode changed %q to %q", start, b)
		}
		for i := range b {
			b[i] = 'x'
		}
		if e == api.OK && !same(got, v) {
			t.Fatalf("Decode(%q): it changed to %q with the bytes", start, got)
		}
		apart(t, got)
	}
}

func TestParseIsApart(t *testing.T) {
	for _, v := range normals() {
		got, _ := Parse(line(v))
		apart(t, got)
	}
	got, e := Parse("b=1 a=1 b=1 c=1 a=2 b=3")
	if e != api.OK {
		t.Fatal(e)
	}
	apart(t, got)
}

// TestAnswersAreApart is R3: two answers to one question share nothing.
func TestAnswersAreApart(t *testing.T) {
	for _, v := range normals() {
		first, _ := Norm(v)
		second, _ := Norm(v)
		spoil(first)
		if !same(second, v) {
			t.Fatalf("Norm(%q): the second answer changed with the first", v)
		}
		b, _ := Encode(v)
		c, _ := Encode(v)
		for i := range b {
			b[i]++
		}
		if !bytes.Equal(c, laid(v)) {
			t.Fatalf("Encode(%q): the second answer changed with the first", v)
		}
	}
}
