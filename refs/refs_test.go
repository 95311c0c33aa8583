package refs

import (
	"slices"
	"strings"
	"testing"

	"folio/api"
)

func key(kind, id string) api.Key                { return api.Key{Type: kind, ID: id} }
func bind(name, kind, id string) api.Bind        { return api.Bind{Name: name, Key: key(kind, id)} }
func one(name string, texts ...string) api.Field { return api.Field{Name: name, Texts: texts} }
func row(fields ...api.Field) []api.Field        { return fields }
func long(text string, n int) string             { return strings.Repeat(text, n) }
func binds(l ...api.Bind) []api.Bind             { return l }
func same(a, b []api.Field) bool                 { return slices.EqualFunc(a, b, sameField) }
func sameField(a, b api.Field) bool              { return a.Name == b.Name && slices.Equal(a.Texts, b.Texts) }
func only(b string, text string) bool            { return strings.Trim(text, b) == "" }
func sized(text string) bool                     { return len(text) >= 1 && len(text) <= api.MaxName }
func mapped(v []api.Field, f func(string) string) []api.Field {
	var l []api.Field
	for _, x := range v {
		var texts []string
		for _, text := range x.Texts {
			texts = append(texts, f(text))
		}
		l = append(l, one(x.Name, texts...))
	}
	return l
}

const (
	bigs    = "ABCDEFGHIJKLMNOPQRSTUVWXYZ"
	letters = bigs + "abcdefghijklmnopqrstuvwxyz"
	others  = letters + "0123456789"
)

// mayBe says whether a key may be, spelt out.
func mayBe(k api.Key) bool {
	return sized(k.Type) && sized(k.ID) && only(bigs, k.Type[:1]) && only(letters, k.Type) && only(others+"-.", k.ID)
}

// asKey is the key that a text names, spelt out.
func asKey(text string) (api.Key, bool) {
	n := strings.IndexByte(text, '/')
	if n < 1 || text[0] != '*' {
		return api.Key{}, false
	}
	k := key(text[1:n], text[n+1:])
	return k, mayBe(k)
}

// asTemp is the temporary name of a text, spelt out.
func asTemp(text string) (string, bool) {
	if len(text) < 3 || text[0] != '*' || text[1] != '@' {
		return "", false
	}
	return text[2:], sized(text[2:]) && only(others, text[2:])
}

// someTexts are references of both kinds, their edges, and texts that are nearly one.
func someTexts() []string {
	t32, i32 := "T"+long("t", api.MaxName-1), long("-", api.MaxName)
	return []string{
		"", "x", "*", "**", "@", "*@", "*/", "*a/b", "Patient/p1", "@x", "/",
		"*Patient/p1", "*A/b", "*A/-", "*A/.", "*A/0", "*Ab/B-1.", "*B/a", "*A/a", "*AA/a", "*A/a-", "*A/a.", "*A/aa",
		"**A/b", " *A/b", "*A/b ", "* A/b", "*A/", "*/b", "*A", "*A/b/c", "*A//b", "*1/b", "*A1/b", "*A/b_", "*A/\u00e4", "*\u00c4/b", "*A/b\x00", "*@/b", "*A@/b", "*A/@b", "A*/b", "*A/*b", "*A|b",
		"*@x", "*@y", "*@X", "*@0", "*@xy", "*@x0", "*@Patient", "*@A", "*@00",
		"**@x", " *@x", "*@x ", "*@ x", "*@-", "*@x-", "*@x.", "*@x/y", "*@A/b", "*@@x", "*@*x", "@*x", "*@\u00e4", "*@x\x00", "*x", "*@_",
		"*" + t32 + "/" + i32, "*" + t32 + "t/b", "*A/" + i32 + "-",
		"*@" + long("x", api.MaxName), "*@" + long("x", api.MaxName+1),
		"*A/b*A/b", "*A/b,*A/c", "*@x*@y",
	}
}

// wrongKeys are keys that may not be, some of which have a text that looks like another key's.
func wrongKeys() []api.Key {
	return []api.Key{
		{}, key("a", "b"), key("A", ""), key("", "b"), key("A/b", ""), key("", "A/b"), key("A", "b/c"), key("A/b", "c"), key("*A", "b"), key("A", "b "), key("A1", "b"), key("@x", "b"), key("A", "*"),
		key("T"+long("t", api.MaxName), "b"), key("A", long("b", api.MaxName+1)),
	}
}

// wrongNames are no temporary names.
func wrongNames() []string {
	return []string{"", "@x", "*@x", "x-", "x.", "x y", "x/y", "\u00e4", "x\x00", long("x", api.MaxName+1)}
}

// someValues are values, normal and not.
func someValues() [][]api.Field {
	all := someTexts()
	back := slices.Clone(all)
	slices.Reverse(back)
	return [][]api.Field{
		nil, {},
		example(),
		row(one("a")), row(one("", "*A/b")), row(one("*A/b", "x")), row(one("*@x", "y")), row(one("A/b"), one("A/b")),
		row(one("b", "*B/a", "*A/b", "*A/a", "*@y", "*@x", "*@y"), one("a", "*@X", "*A/b", "*A/aa", "*@0"), one("b", "*@x")),
		row(one("all", all...)), row(one("back", back...), one("all", all...), one(""), one("all", "x")),
	}
}

func example() []api.Field {
	return row(one("a", "*Patient/p1", "*@x"), one("b", "*@y", "x"))
}

// TestExamples are the chapter's.
func TestExamples(t *testing.T) {
	v, patient := example(), key("Patient", "p1")
	if l := Keys(v); !slices.Equal(l, []api.Key{patient}) {
		t.Errorf("Keys: %q", l)
	}
	if l := Temps(v); !slices.Equal(l, []string{"x", "y"}) {
		t.Errorf("Temps: %q", l)
	}
	both := binds(bind("x", "A", "b"), api.Bind{Name: "y", Key: patient})
	want := row(one("a", "*Patient/p1", "*A/b"), one("b", "*Patient/p1", "x"))
	if w, e := Resolve(v, both); !same(w, want) || e != api.OK {
		t.Errorf("Resolve: %q, %v", w, e)
	}
	for _, x := range []struct {
		l    []api.Bind
		want api.Errno
	}{
		{binds(bind("x", "A", "b")), api.ErrTemp},
		{append(both, bind("x", "A", "b")), api.ErrTwice},
		{binds(bind("x", "a", "b")), api.ErrName},
	} {
		if w, e := Resolve(v, x.l); len(w) != 0 || e != x.want {
			t.Errorf("Resolve by %q: %q, %v", x.l, w, e)
		}
	}
	want = row(one("a", "*A/c", "*@x"), one("b", "*@y", "x"))
	if w, e := Rename(v, patient, key("A", "c")); !same(w, want) || e != api.OK {
		t.Errorf("Rename: %q, %v", w, e)
	}
	none := row(one("a", "*", "*@", "*a/b", "Patient/p1"))
	if k, n := Keys(none), Temps(none); len(k) != 0 || len(n) != 0 {
		t.Errorf("Keys: %q; Temps: %q", k, n)
	}
	if s, e := Text(key("A", "b")); s != "*A/b" || e != api.OK {
		t.Errorf("Text: %q, %v", s, e)
	}
}

// TestText is P5.1 for Text: the one text that names the key.
func TestText(t *testing.T) {
	named := 0
	for _, text := range someTexts() {
		k, found := asKey(text)
		if !found {
			continue
		}
		named++
		if s, e := Text(k); s != text || e != api.OK {
			t.Errorf("Text(%q): %q, %v", k, s, e)
		}
	}
	if named < 10 {
		t.Error("too few:", named)
	}
	for _, k := range wrongKeys() {
		if s, e := Text(k); s != "" || e != api.ErrName {
			t.Errorf("Text(%q): %q, %v", k, s, e)
		}
	}
}

// TestEachText tries each text alone: what it names, and that it is at most of one kind.
func TestEachText(t *testing.T) {
	for _, text := range someTexts() {
		v := row(one("a", text))
		k, isKey := asKey(text)
		n, isTemp := asTemp(text)
		if l := Keys(v); isKey != (len(l) == 1 && l[0] == k) || !isKey && len(l) > 0 {
			t.Errorf("Keys of %q: %q", text, l)
		}
		if l := Temps(v); isTemp != (len(l) == 1 && l[0] == n) || !isTemp && len(l) > 0 {
			t.Errorf("Temps of %q: %q", text, l)
		}
		if isKey && !Points(v, k) || isKey && isTemp {
			t.Errorf("%q", text)
		}
	}
}

// TestShortTexts tries all texts of up to five telling bytes.
func TestShortTexts(t *testing.T) {
	for rest := []string{""}; len(rest) > 0; rest = rest[1:] {
		text := rest[0]
		if len(text) < 5 {
			for _, b := range []string{"*", "@", "A", "a", "/", "0", "-"} {
				rest = append(rest, text+b)
			}
		}
		v := row(one("a", text))
		k, isKey := asKey(text)
		n, isTemp := asTemp(text)
		keys, temps := Keys(v), Temps(v)
		if isKey && !slices.Equal(keys, []api.Key{k}) || !isKey && len(keys) > 0 {
			t.Fatalf("Keys of %q: %q", text, keys)
		}
		if isTemp && !slices.Equal(temps, []string{n}) || !isTemp && len(temps) > 0 {
			t.Fatalf("Temps of %q: %q", text, temps)
		}
	}
}

// TestRising is P5.1 for Keys and Temps: all that are named, each once, in order, whatever field they stand in.
func TestRising(t *testing.T) {
	for _, v := range someValues() {
		seenKeys, seenTemps := map[api.Key]bool{}, map[string]bool{}
		mapped(v, func(text string) string {
			if k, found := asKey(text); found {
				seenKeys[k] = true
			}
			if n, found := asTemp(text); found {
				seenTemps[n] = true
			}
			return text
		})
		keys, temps := Keys(v), Temps(v)
		if len(keys) != len(seenKeys) || len(temps) != len(seenTemps) {
			t.Fatalf("%q: Keys %q, Temps %q", v, keys, temps)
		}
		for i, k := range keys {
			if !seenKeys[k] || i > 0 && !(keys[i-1].Type < k.Type || keys[i-1].Type == k.Type && keys[i-1].ID < k.ID) {
				t.Fatalf("Keys(%q): %q", v, keys)
			}
		}
		for i, n := range temps {
			if !seenTemps[n] || i > 0 && temps[i-1] >= n {
				t.Fatalf("Temps(%q): %q", v, temps)
			}
		}
	}
}

// TestPoints is P5.1 for Points: just the keys that Keys tells.
func TestPoints(t *testing.T) {
	var all []api.Key
	for _, text := range someTexts() {
		if k, found := asKey(text); found {
			all = append(all, k)
		}
	}
	all = append(all, key("B", "b"), key("Patient", "p"), key("P", "p1"), key("A", "B"), key("Ab", "b"))
	for _, v := range someValues() {
		named := Keys(v)
		for _, k := range all {
			if Points(v, k) != slices.Contains(named, k) {
				t.Errorf("Points(%q, %q): %v", v, k, Points(v, k))
			}
		}
		for _, k := range wrongKeys() {
			if Points(v, k) {
				t.Errorf("Points(%q, %q): true", v, k)
			}
		}
	}
	// A text in a key's form which the key's wrong parts would make is no reference to it.
	if v := row(one("a", "*A/b/c", "*a/b", "*/", "*A/b/", "*/A/b")); Points(v, key("A", "b/c")) || Points(v, key("A/b", "c")) || Points(v, key("a", "b")) || Points(v, api.Key{}) || Points(v, key("A/b", "")) || Points(v, key("", "A/b")) {
		t.Error("a key that may not be is named")
	}
}
