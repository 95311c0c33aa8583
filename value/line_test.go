package value

import (
	"strings"
	"testing"

	"folio/api"
)

// line is a value's line, spelt out.
func line(v []api.Field) string {
	s := ""
	for i, f := range v {
		for j, text := range f.Texts {
			if i > 0 || j > 0 {
				s += " "
			}
			s += f.Name + "="
			for k := range len(text) {
				s += spelt(text[k])
			}
		}
	}
	return s
}

func TestPrintExamples(t *testing.T) {
	for _, x := range []struct {
		v    []api.Field
		want string
	}{
		{row(one("a", "x", ""), one("b", "1 2")), "a=x a= b=1%202"},
		{nil, ""},
		{row(), ""},
		{row(one("a", "")), "a="},
		{row(one("a", "", "")), "a= a="},
		{row(one("a", "x=y")), "a=x%3dy"},
		{row(one("birthDate", "1970-01-01"), one("identifier", "mrn|7"), one("name", "Zo\u00eb K.")), "birthDate=1970-01-01 identifier=mrn|7 name=Zo%c3%ab%20K."},
	} {
		if s, e := Print(x.v); s != x.want || e != api.OK {
			t.Errorf("Print(%q): %q, %v; want %q", x.v, s, e, x.want)
		}
	}
}

// TestPrintAndParse is P3.2: Parse of Print is the value.
func TestPrintAndParse(t *testing.T) {
	for _, v := range normals() {
		s, e := Print(v)
		if s != line(v) || e != api.OK {
			t.Errorf("Print(%q): %q, %v", v, s, e)
		}
		if got, e := Parse(s); !same(got, v) || e != api.OK {
			t.Errorf("Parse(%q): %q, %v", s, got, e)
		}
	}
}

func TestPrintOfOthers(t *testing.T) {
	for _, x := range unlikes() {
		if s, e := Print(x.v); s != "" || e != api.ErrField {
			t.Errorf("Print(%q): %q, %v", x.v, s, e)
		}
	}
}

func TestParseExamples(t *testing.T) {
	for _, x := range []struct {
		s    string
		want []api.Field
	}{
		{"b=1 a=2", row(one("a", "2"), one("b", "1"))},
		{"", nil},
		{"a=", row(one("a", ""))},
		{"a= a=", row(one("a", "", ""))},
		{"a=x", row(one("a", "x"))},
		{"b=2 a=1 b=1 a=1", row(one("a", "1", "1"), one("b", "2", "1"))},
		{"a=%20 b=%3d", row(one("a", " "), one("b", "="))},
		{"a=%00%ff", row(one("a", "\x00\xff"))},
		{"aa=1 a=2 aA=3", row(one("a", "2"), one("aA", "3"), one("aa", "1"))},
	} {
		if v, e := Parse(x.s); !same(v, x.want) || e != api.OK || !May(v) {
			t.Errorf("Parse(%q): %q, %v; want %q", x.s, v, e, x.want)
		}
	}
}

func TestParseOfOthers(t *testing.T) {
	for _, s := range []string{
		"a", "a=1  b=2", " ", "a=%",
		"  ", " a=1", "a=1 ", " a=1 ", "a=1 b", "b a=1", "a=1 b c=2", "a=1   b=2", "a= ",
		"a==", "==", "a==1", "a=1=2", "a=1=", "=1=", "a=b=c=d", "a=1 b=2=3",
		"a=%3D", "a=%41", "a=%4", "a=%2", "a=1 b=%", "a=\u00e9", "a=\x00", "a=1\n", "a=1\tb=2", "a=\"", "%", "a%3d1", "1", "A",
	} {
		if v, e := Parse(s); len(v) != 0 || e != api.ErrForm {
			t.Errorf("Parse(%q): %q, %v", s, v, e)
		}
	}
	// Each byte that isn't plain, but for the blank, breaks the text of a word; a blank makes another word of what follows.
	for i := range 256 {
		s := string([]byte{byte(i)})
		if strings.Contains(asTheyAre, s) {
			continue
		}
		if v, e := Parse("a=x" + s + "y"); len(v) != 0 || e != api.ErrForm {
			t.Errorf("Parse(%q): %q, %v", "a=x"+s+"y", v, e)
		}
	}
}

func TestParseErrors(t *testing.T) {
	words := func(word string, n int) string { return strings.TrimSuffix(strings.Repeat(word+" ", n), " ") }
	for _, x := range []struct {
		s string
		e api.Errno
	}{
		{"=1", api.ErrName},
		{"=", api.ErrName},
		{"= =", api.ErrName},
		{"A=1", api.ErrName},
		{"a=1 =1", api.ErrName},
		{"a=1 B=2 c=3", api.ErrName},
		{"\u00e4=1", api.ErrName},
		{"a%20b=1", api.ErrName},
		{"a\tb=1", api.ErrName},
		{strings.Repeat("a", api.MaxName+1) + "=1", api.ErrName},
		{"\x00=", api.ErrName},
		{"\n=1", api.ErrName},
		// What can't be read is answered first, wherever it stands.
		{"A=1 b", api.ErrForm},
		{"b A=1", api.ErrForm},
		{"=1 ", api.ErrForm},
		{"=1  =2", api.ErrForm},
		{"A=1 b=%", api.ErrForm},
		{"a=" + long(api.MaxText+1) + " b", api.ErrForm},
		{words("a=", api.MaxTexts+1) + " ", api.ErrForm},
		// Then Norm's own order.
		{"a=" + long(api.MaxText+1) + " B=", api.ErrName},
		{words("a=", api.MaxTexts+1) + " =", api.ErrName},
		{"a=" + long(api.MaxText+1), api.ErrLong},
		{"a=" + strings.Repeat("%20", api.MaxText+1), api.ErrLong},
		{words("a=1", api.MaxTexts+1), api.ErrLong},
		{words("a=1", api.MaxTexts) + " b=2 a=3", api.ErrLong},
		{line(wide(api.MaxFields + 1)), api.ErrLong},
	} {
		if v, e := Parse(x.s); len(v) != 0 || e != x.e {
			t.Errorf("Parse(%q): %q, %v; want %v", x.s, v, e, x.e)
		}
	}
	// The bounds hold for texts, not for how they are written.
	if v, e := Parse("a=" + strings.Repeat("%20", api.MaxText)); !same(v, row(one("a", strings.Repeat(" ", api.MaxText)))) || e != api.OK {
		t.Errorf("%q, %v", v, e)
	}
	if v, e := Parse(words("a=1", api.MaxTexts)); e != api.OK || len(v) != 1 || len(v[0].Texts) != api.MaxTexts {
		t.Errorf("%q, %v", v, e)
	}
	if v, e := Parse(line(wide(api.MaxFields))); !same(v, wide(api.MaxFields)) || e != api.OK {
		t.Errorf("%q, %v", v, e)
	}
}

// TestParseIsNorm: a line's words are fields with one text each, and Norm does the rest.
func TestParseIsNorm(t *testing.T) {
	for _, x := range unlikes() {
		var v []api.Field
		blanks := false
		for _, f := range x.v {
			blanks = blanks || strings.ContainsAny(f.Name, " =")
			for _, text := range f.Texts {
				v = append(v, one(f.Name, text))
			}
		}
		if blanks {
			continue
		}
		want, e := Norm(v)
		if got, f := Parse(line(v)); !same(got, want) || f != e {
			t.Errorf("Parse(%q): %q, %v; want %q, %v", line(v), got, f, want, e)
		}
	}
}
