package value

import (
	"slices"
	"strings"
	"testing"

	"folio/api"
)

// one is a field of a name and its texts.
func one(name string, texts ...string) api.Field { return api.Field{Name: name, Texts: texts} }

// row is a list of fields.
func row(fields ...api.Field) []api.Field { return fields }

// long is a text of n bytes.
func long(n int) string { return strings.Repeat("t", n) }

// some is n texts, each unlike the others.
func some(n int) []string {
	var l []string
	for i := range n {
		l = append(l, string(rune('a'+i)))
	}
	return l
}

// wide is n fields with unlike names, rising, of one text each.
func wide(n int) []api.Field {
	var v []api.Field
	for i := range n {
		v = append(v, one("f"+string(rune('A'+i)), "x"))
	}
	return v
}

// full has as much of everything as a normal value may have.
func full() []api.Field {
	var v []api.Field
	for i := range api.MaxFields {
		f := one(strings.Repeat("n", api.MaxName-1) + string(rune('a'+i)))
		for j := range api.MaxTexts {
			f.Texts = append(f.Texts, strings.Repeat(string([]byte{byte(16*i + j)}), api.MaxText))
		}
		v = append(v, f)
	}
	return v
}

// allBytes are texts with every byte: each alone, and all of them in two texts as long as they may be.
func allBytes() []string {
	var l []string
	var all []byte
	for i := range 256 {
		l = append(l, string([]byte{byte(i)}))
		all = append(all, byte(i))
	}
	return append(l, string(all[:128]), string(all[128:]))
}

// normals are values that are normal.
func normals() [][]api.Field {
	l := [][]api.Field{
		nil,
		{},
		row(one("a", "")),
		row(one("a", "x")),
		row(one("a", "x", "")),
		row(one("a", "", "")),
		row(one("a", "x", "x")),
		row(one("a", "z", "y", "x")),
		row(one("a", "y"), one("b", "x", "z")),
		row(one("a", "x", ""), one("b", "1 2")),
		// As bytes: capitals and digits stand ahead of small letters, and a name ahead of a longer one that begins with it.
		row(one("a", "1"), one("a0", "2"), one("aA", "3"), one("aB", "4"), one("aa", "5"), one("b", "6")),
		row(one("z9Z", "x")),
		row(one(strings.Repeat("a", api.MaxName), "x")),
		row(one("a", some(api.MaxTexts)...)),
		row(one("a", long(api.MaxText))),
		row(one("a", "x", long(api.MaxText), ""), one("b", long(api.MaxText-1))),
		wide(1),
		wide(api.MaxFields - 1),
		wide(api.MaxFields),
		full(),
	}
	for _, text := range allBytes() {
		l = append(l, row(one("a", text)))
	}
	return l
}

// badNames are texts that are no field's names.
func badNames() []string {
	return []string{"", " ", "A", "Ab", "1", "1a", "a-", "a.", "a_", "a b", "a=", "=", "a/b", "\u00e4", "a\u00e4", "a\x00", strings.Repeat("a", api.MaxName+1)}
}

// unlike are values that are not normal, and what Norm makes of them, or the error.
type unlike struct {
	v    []api.Field
	want []api.Field
	e    api.Errno
}

func unlikes() []unlike {
	eight, nine := some(api.MaxTexts), some(api.MaxTexts+1)
	l := []unlike{
		{row(one("b", "x"), one("a", "y"), one("b", "z")), row(one("a", "y"), one("b", "x", "z")), api.OK},
		{row(one("b", "1"), one("a", "2")), row(one("a", "2"), one("b", "1")), api.OK},
		{row(one("a", "x"), one("a", "x")), row(one("a", "x", "x")), api.OK},
		{row(one("a", "z"), one("a", "y"), one("a", "x")), row(one("a", "z", "y", "x")), api.OK},
		{row(one("c", "1", "2"), one("a", "3"), one("c"), one("b", ""), one("a", "4", "5"), one("c", "0")), row(one("a", "3", "4", "5"), one("b", ""), one("c", "1", "2", "0")), api.OK},
		{row(one("aa", "1"), one("aA", "2"), one("a0", "3"), one("a", "4")), row(one("a", "4"), one("a0", "3"), one("aA", "2"), one("aa", "1")), api.OK},
		// A field without texts is none beside another of its name.
		{row(one("a"), one("a", "x")), row(one("a", "x")), api.OK},
		{row(one("a", "x"), one("a")), row(one("a", "x")), api.OK},
		{row(one("a", "x"), api.Field{Name: "a", Texts: []string{}}), row(one("a", "x")), api.OK},
		{row(one("a")), nil, api.ErrField},
		{row(api.Field{Name: "a", Texts: []string{}}), nil, api.ErrField},
		{row(one("a"), one("a")), nil, api.ErrField},
		{row(one("a", "x"), one("b")), nil, api.ErrField},
		{row(one("b"), one("a", "x")), nil, api.ErrField},
		// Texts that come together.
		{row(one("a", eight[:3]...), one("a", eight[3:]...)), row(one("a", eight...)), api.OK},
		{row(one("a", eight[:7]...), one("b", "x"), one("a", eight[7])), row(one("a", eight...), one("b", "x")), api.OK},
		{row(one("a", nine...)), nil, api.ErrLong},
		{row(one("a", nine[:3]...), one("a", nine[3:]...)), nil, api.ErrLong},
		{row(one("a", eight...), one("b", "x"), one("a", "y")), nil, api.ErrLong},
		{row(one("b", nine...), one("a", "x")), nil, api.ErrLong},
		{row(one("a", some(20)...)), nil, api.ErrLong},
		{row(one("a", long(api.MaxText+1))), nil, api.ErrLong},
		{row(one("a", "x", long(api.MaxText+1), "y")), nil, api.ErrLong},
		{row(one("a", "x"), one("b", long(1000))), nil, api.ErrLong},
		{wide(api.MaxFields + 1), nil, api.ErrLong},
		{wide(25), nil, api.ErrLong},
		// More fields than a value may have, of names that are not too many.
		{slices.Concat(wide(api.MaxFields), wide(api.MaxFields)), twice(wide(api.MaxFields)), api.OK},
		// Which error is answered, where more than one would do.
		{row(one("a"), one("A", "x")), nil, api.ErrName},
		{row(one("A")), nil, api.ErrName},
		{row(one("a", long(api.MaxText+1)), one("B", "x")), nil, api.ErrName},
		{row(one("a", nine...), one("b"), one("", "x")), nil, api.ErrName},
		{append(wide(api.MaxFields+1), one("G", "x")), nil, api.ErrName},
		{append(wide(api.MaxFields+1), one("g")), nil, api.ErrField},
		{append(wide(api.MaxFields), one("g")), nil, api.ErrField},
		{row(one("a", long(api.MaxText+1)), one("b")), nil, api.ErrField},
		{row(one("a"), one("b", nine...)), nil, api.ErrField},
	}
	for _, s := range badNames() {
		l = append(l, unlike{row(one(s, "x")), nil, api.ErrName})
		l = append(l, unlike{row(one("a", "x"), one(s, "x"), one("c", "x")), nil, api.ErrName})
		l = append(l, unlike{row(one("a", "x"), one("c", "x"), one(s, "x")), nil, api.ErrName})
	}
	return l
}

// twice is a value with the texts of each field doubled.
func twice(v []api.Field) []api.Field {
	for i := range v {
		v[i].Texts = slices.Concat(v[i].Texts, v[i].Texts)
	}
	return v
}

// same is what Equal should say, spelt out.
func same(a, b []api.Field) bool {
	if len(a) != len(b) {
		return false
	}
	for i := range a {
		if a[i].Name != b[i].Name || len(a[i].Texts) != len(b[i].Texts) {
			return false
		}
		for j := range a[i].Texts {
			if a[i].Texts[j] != b[i].Texts[j] {
				return false
			}
		}
	}
	return true
}

func TestNorm(t *testing.T) {
	for _, x := range unlikes() {
		got, e := Norm(x.v)
		if !same(got, x.want) || e != x.e {
			t.Errorf("Norm(%q): %q, %v; want %q, %v", x.v, got, e, x.want, x.e)
		}
		if e == api.OK && !May(got) {
			t.Errorf("Norm(%q): not normal", x.v)
		}
	}
}

// TestNormOfNormal is P3.3: Norm of a normal value is the value.
func TestNormOfNormal(t *testing.T) {
	for _, v := range normals() {
		if got, e := Norm(v); !same(got, v) || e != api.OK {
			t.Errorf("Norm(%q): %q, %v", v, got, e)
		}
	}
}

// TestNormKeepsTexts is P3.3: the texts of a name are, in order, those of all its fields ahead. All lists of up to 6 fields of 3 names are tried, the texts being their places.
func TestNormKeepsTexts(t *testing.T) {
	names := []string{"b", "a", "c"}
	for size := range 7 {
		count := 1
		for range size {
			count *= len(names)
		}
		for n := range count {
			var v []api.Field
			texts := map[string][]string{}
			for i, rest := 0, n; i < size; i, rest = i+1, rest/len(names) {
				f := one(names[rest%len(names)], string(rune('0'+i)))
				v = append(v, f)
				texts[f.Name] = append(texts[f.Name], f.Texts...)
			}
			got, e := Norm(v)
			if e != api.OK || len(got) != len(texts) || !May(got) {
				t.Fatalf("Norm(%q): %q, %v", v, got, e)
			}
			for name, want := range texts {
				if l := Texts(got, name); !slices.Equal(l, want) {
					t.Fatalf("Norm(%q): %q has %q", v, name, l)
				}
			}
		}
	}
}

// TestNormOfMany: a long list is put together as a short one, in the order in which its texts came.
func TestNormOfMany(t *testing.T) {
	var v []api.Field
	for j := range api.MaxTexts {
		for i := range api.MaxFields {
			v = append(v, one("f"+string(rune('A'+i*5%api.MaxFields)), string(rune('a'+j))))
		}
	}
	want := wide(api.MaxFields)
	for i := range want {
		want[i].Texts = some(api.MaxTexts)
	}
	if got, e := Norm(v); !same(got, want) || e != api.OK {
		t.Errorf("%q, %v", got, e)
	}
	if got, e := Norm(append(v, one("fA", "x"))); got != nil || e != api.ErrLong {
		t.Errorf("one text more: %q, %v", got, e)
	}
}

func TestMay(t *testing.T) {
	for _, v := range normals() {
		if !May(v) {
			t.Errorf("May(%q): false", v)
		}
	}
	for _, x := range unlikes() {
		if May(x.v) {
			t.Errorf("May(%q): true", x.v)
		}
	}
}

func TestEqual(t *testing.T) {
	values := normals()[1:]
	for _, x := range unlikes() {
		values = append(values, x.v)
	}
	values = append(values,
		row(one("a", "xy")), row(one("a", "x", "y")), row(one("a", "y", "x")), row(one("a", "x"), one("b", "y")), row(one("ax", "y")),
		row(one("a", "y"), one("b", "x")), row(one("a"), one("b")), row(one("a"), one("b"), one("c")), row(one("b"), one("a")), row(one("a"), one("b", "")),
		row(one("")), row(one(""), one("")), row(one("", "")))
	for _, a := range values {
		for _, b := range values {
			if got := Equal(a, b); got != same(a, b) {
				t.Errorf("Equal(%q, %q): %v", a, b, got)
			}
		}
	}
	// Lists without elements mean the same, nil or empty.
	if !Equal(nil, nil) || !Equal(nil, row()) || !Equal(row(), nil) || !Equal([]api.Field{}, row()) {
		t.Error("no fields are unlike no fields")
	}
	if !Equal(row(one("a")), row(api.Field{Name: "a", Texts: []string{}})) || !Equal(row(api.Field{Name: "a", Texts: []string{}}), row(one("a"))) {
		t.Error("no texts are unlike no texts")
	}
}

func TestTexts(t *testing.T) {
	v := row(one("b", "x"), one("a", "y", ""), one("b", "z"), one("", "no name"), one("A", long(1000)), one("c"), one("c", "1"))
	for _, x := range []struct {
		name string
		want []string
	}{
		{"a", []string{"y", ""}},
		{"b", []string{"x"}},
		{"", []string{"no name"}},
		{"A", []string{long(1000)}},
		{"c", nil},
		{"d", nil},
		{"aa", nil},
		{"B", nil},
	} {
		if got := Texts(v, x.name); !slices.Equal(got, x.want) {
			t.Errorf("Texts(%q): %q", x.name, got)
		}
	}
	if len(Texts(nil, "a")) != 0 || len(Texts(nil, "")) != 0 || len(Texts(row(), "a")) != 0 {
		t.Error("texts of no fields")
	}
}
