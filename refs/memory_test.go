package refs

import (
	"slices"
	"testing"

	"folio/api"
)

// spare stands in the spare room of what is handed in.
const spare = "*@x"

// roomy is a value with spare room behind its fields and behind each field's texts, filled with what must stay.
func roomy(v []api.Field) []api.Field {
	var l []api.Field
	for _, f := range v {
		l = append(l, api.Field{Name: f.Name, Texts: append(slices.Clone(f.Texts), spare, spare)[:len(f.Texts)]})
	}
	return append(l, one(spare, spare), one(spare, spare))[:len(v)]
}

// untouched fails unless v, which roomy made of was, is as it was, spare room too.
func untouched(t *testing.T, what string, v, was []api.Field) {
	t.Helper()
	ok := same(v, was) && same(v[:len(v)+2], append(slices.Clone(was), one(spare, spare), one(spare, spare)))
	for _, f := range v {
		ok = ok && slices.Equal(f.Texts[:len(f.Texts)+2][len(f.Texts):], []string{spare, spare})
	}
	if !ok {
		t.Fatalf("%s: changed to %q; was %q", what, v, was)
	}
}

// spoil overwrites all that a value has, spare room too.
func spoil(v []api.Field) {
	for i, f := range v {
		for j := range f.Texts[:cap(f.Texts)] {
			f.Texts[:cap(f.Texts)][j] = "spoilt"
		}
		v[i].Name = "spoilt"
	}
	for i := range v[len(v):cap(v)] {
		v[len(v):cap(v)][i] = one("spoilt")
	}
}

// TestArgumentsStay is R3: what is handed in stays, and what is answered is apart from it.
func TestArgumentsStay(t *testing.T) {
	left := bind("left", "Left", "l")
	for _, was := range someValues() {
		v := roomy(was)
		l := allBinds()
		given := append(slices.Clone(l), left, left)
		Keys(v)
		Temps(v)
		Points(v, key("A", "b"))
		untouched(t, "the calls that tell", v, was)
		for range 2 {
			got, _ := Resolve(v, given[:len(l)])
			spoil(got)
			untouched(t, "Resolve", v, was)
			got, _ = Rename(v, key("A", "b"), key("B", "c"))
			spoil(got)
			untouched(t, "Rename", v, was)
			got, _ = Rename(v, key("A", "b"), key("A", "b"))
			spoil(got)
			untouched(t, "Rename to itself", v, was)
		}
		if !slices.Equal(given, append(slices.Clone(l), left, left)) {
			t.Fatalf("binds changed to %q", given)
		}
	}
}

// TestAnswersAreApart is R3: two lists of one answer share nothing, and no two answers do.
func TestAnswersAreApart(t *testing.T) {
	v := someValues()[len(someValues())-1]
	for name, call := range map[string]func() []api.Field{
		"Resolve": func() []api.Field { got, _ := Resolve(v, allBinds()); return got },
		"Rename":  func() []api.Field { got, _ := Rename(v, key("A", "b"), key("B", "c")); return got },
	} {
		want, got := call(), call()
		for i := range got {
			got[i].Texts = append(got[i].Texts, "more")
			for j := range got[i].Texts {
				got[i].Texts[j] = "spoilt"
			}
			for j := range got {
				if j > i && !slices.Equal(got[j].Texts, want[j].Texts) {
					t.Errorf("%s: fields %d and %d share their texts", name, i, j)
				}
			}
		}
		if !same(call(), want) {
			t.Errorf("%s: a later answer changed", name)
		}
	}
	keys, temps := Keys(v), Temps(v)
	wantKeys, wantTemps := slices.Clone(keys), slices.Clone(temps)
	clear(keys[:cap(keys)])
	clear(temps[:cap(temps)])
	if !slices.Equal(Keys(v), wantKeys) || !slices.Equal(Temps(v), wantTemps) {
		t.Error("Keys or Temps: a later answer changed")
	}
}
