package name

import (
	"slices"
	"strings"
	"testing"

	"folio/api"
)

// goodTypes and goodIDs make keys that may be.
func goodTypes() []string {
	return []string{"A", "Z", "Patient", "AZ", "Az", strings.Repeat("A", api.MaxName), "Z" + strings.Repeat("z", api.MaxName-1)}
}

func goodIDs() []string {
	return []string{"p1", "0", "9", "-", ".", "a", "z", "A", "Z", "a-1.B", strings.Repeat("9", api.MaxName), strings.Repeat(".", api.MaxName)}
}

// badTypes and badIDs make keys that may not be.
func badTypes() []string {
	return []string{"", "patient", "P1", "1", "P-", "P.", "P/", "P ", "\u00c4", "A\x00", strings.Repeat("A", api.MaxName+1)}
}

func badIDs() []string {
	return []string{"", "/", "a/b", "a/", "/a", "a b", "a|b", "a_", "\u00e4", "a\x00", strings.Repeat("a", api.MaxName+1)}
}

// badKeys are keys that may not be, by the type, by the id, and by both.
func badKeys() []api.Key {
	var l []api.Key
	for _, kind := range badTypes() {
		for _, id := range slices.Concat(goodIDs(), badIDs()) {
			l = append(l, api.Key{Type: kind, ID: id})
		}
	}
	for _, kind := range goodTypes() {
		for _, id := range badIDs() {
			l = append(l, api.Key{Type: kind, ID: id})
		}
	}
	return l
}

// goodKeys are keys that may be.
func goodKeys() []api.Key {
	var l []api.Key
	for _, kind := range goodTypes() {
		for _, id := range goodIDs() {
			l = append(l, api.Key{Type: kind, ID: id})
		}
	}
	return l
}

func TestKey(t *testing.T) {
	for _, k := range goodKeys() {
		if !Key(k) {
			t.Errorf("Key(%q): false", k)
		}
	}
	for _, k := range badKeys() {
		if Key(k) {
			t.Errorf("Key(%q): true", k)
		}
	}
}

func TestPrint(t *testing.T) {
	if s, e := Print(api.Key{Type: "Patient", ID: "p1"}); s != "Patient/p1" || e != api.OK {
		t.Error(s, e)
	}
	for _, k := range goodKeys() {
		if s, e := Print(k); s != strings.Join([]string{k.Type, k.ID}, "/") || e != api.OK {
			t.Errorf("Print(%q): %q, %v", k, s, e)
		}
	}
	for _, k := range badKeys() {
		if s, e := Print(k); s != "" || e != api.ErrName {
			t.Errorf("Print(%q): %q, %v", k, s, e)
		}
	}
}

func TestParseExamples(t *testing.T) {
	if k, e := Parse("Patient/p1"); k != (api.Key{Type: "Patient", ID: "p1"}) || e != api.OK {
		t.Error(k, e)
	}
	for _, s := range []string{"Patient", "Patient/p/1", "patient/p1"} {
		if k, e := Parse(s); k != (api.Key{}) || e != api.ErrName {
			t.Errorf("Parse(%q): %q, %v", s, k, e)
		}
	}
}

func TestParseWrong(t *testing.T) {
	long := strings.Repeat("A", api.MaxName+1)
	for _, s := range []string{
		"", "/", "//", "///", "A", "A/", "/a", "A//", "A//a", "//a", "/A/a", "A/a/", "A/a/b", "A/a/B/b",
		"a/a", "1/a", "A1/a", "A-/a", "A./a", "A /a", "A/ a", " A/a", "A/a ", "A/a\n", "A/a|b", "A|a", "A\\a",
		long + "/a", "A/" + long, long + "/" + long, long, "\u00c4/a", "A/\u00e4", "A\u2044a", "A/\xff", "A/\x00",
	} {
		if k, e := Parse(s); k != (api.Key{}) || e != api.ErrName {
			t.Errorf("Parse(%q): %q, %v", s, k, e)
		}
	}
	for _, k := range badKeys() {
		if strings.Count(k.Type+k.ID, "/") == 0 {
			if got, e := Parse(k.Type + "/" + k.ID); got != (api.Key{}) || e != api.ErrName {
				t.Errorf("Parse of %q: %q, %v", k, got, e)
			}
		}
	}
}

// TestThereAndBack is P2.2: of each key that may be, and of every short text of a few bytes.
func TestThereAndBack(t *testing.T) {
	for _, k := range goodKeys() {
		s, _ := Print(k)
		if got, e := Parse(s); got != k || e != api.OK {
			t.Errorf("Parse of Print of %q: %q, %v", k, got, e)
		}
	}
	const bytes, longest = "Aa0-./|", 5
	texts, keys := []string{""}, 0
	for len(texts) > 0 {
		s := texts[0]
		texts = texts[1:]
		if k, e := Parse(s); e == api.OK {
			keys++
			if got, e := Print(k); got != s || e != api.OK {
				t.Errorf("Print of Parse of %q: %q, %v", s, got, e)
			}
		} else if k != (api.Key{}) || e != api.ErrName {
			t.Errorf("Parse(%q): %q, %v", s, k, e)
		}
		if len(s) == longest {
			continue
		}
		for i := range len(bytes) {
			texts = append(texts, s+bytes[i:i+1])
		}
	}
	// Of each length n the types of 1 letter, 2, .. with the ids that fill up: of 5 kinds of bytes for an id, 2 for a letter.
	want := 0
	for kind, types := 1, 1; kind <= longest-2; kind, types = kind+1, types*2 {
		for id, ids := 1, 5; kind+1+id <= longest; id, ids = id+1, ids*5 {
			want += types * ids
		}
	}
	if keys != want {
		t.Errorf("%d texts are keys, of %d", keys, want)
	}
}
