package name

import (
	"strings"
	"testing"

	"folio/api"
)

const (
	bigs   = "ABCDEFGHIJKLMNOPQRSTUVWXYZ"
	smalls = "abcdefghijklmnopqrstuvwxyz"
	digits = "0123456789"
)

// words are the four kinds of texts, with the bytes that may stand first and behind, written out.
func words() []struct {
	name          string
	is            func(string) bool
	first, behind string
} {
	return []struct {
		name          string
		is            func(string) bool
		first, behind string
	}{
		{"Type", Type, bigs, bigs + smalls},
		{"ID", ID, bigs + smalls + digits + "-.", bigs + smalls + digits + "-."},
		{"Field", Field, smalls, bigs + smalls + digits},
		{"Temp", Temp, bigs + smalls + digits, bigs + smalls + digits},
	}
}

// TestEveryByte tries each of the 256 bytes alone, first, amid and last.
func TestEveryByte(t *testing.T) {
	for _, w := range words() {
		head, tail := w.first[:1], w.behind[len(w.behind)-1:]
		for n := range 256 {
			b := string([]byte{byte(n)})
			first, behind := strings.Contains(w.first, b), strings.Contains(w.behind, b)
			for _, x := range []struct {
				text string
				want bool
			}{
				{b, first},
				{b + tail, first},
				{head + b, behind},
				{head + b + tail, behind},
				{head + tail + b, behind},
				{b + b, first && behind},
				{head + strings.Repeat(tail, api.MaxName-2) + b, behind},
			} {
				if w.is(x.text) != x.want {
					t.Errorf("%s(%q): not %v", w.name, x.text, x.want)
				}
			}
		}
	}
}

// TestEveryLength tries the lengths around the edges, and far ones.
func TestEveryLength(t *testing.T) {
	for _, w := range words() {
		for _, n := range []int{0, 1, 2, api.MaxName - 1, api.MaxName, api.MaxName + 1, 2 * api.MaxName, 256, 257, 1 << 16} {
			s := strings.Repeat(w.first[:1], n)
			if w.is(s) != (n >= 1 && n <= api.MaxName) {
				t.Errorf("%s of %d bytes: %v", w.name, n, w.is(s))
			}
		}
	}
}

// TestBytesNotRunes: the limit counts bytes, and letters beyond ASCII are none.
func TestBytesNotRunes(t *testing.T) {
	for _, w := range words() {
		for _, s := range []string{"\u00c4", "\u00e4", "A\u00e4", "a\u00e4", "\u0661", "a\u0661", "\uff21", "\uff41", "\u212a", "a\xff", "\xff", "a\x00", "\x00"} {
			if w.is(s) {
				t.Errorf("%s(%q): true", w.name, s)
			}
		}
	}
}

func TestWordExamples(t *testing.T) {
	for _, x := range []struct {
		got, want bool
	}{
		{Type("Patient"), true},
		{Type("patient"), false},
		{Type("P1"), false},
		{Type(""), false},
		{ID("a-1.B"), true},
		{ID("a/b"), false},
		{Field("birthDate"), true},
		{Field("Name"), false},
		{Temp("7x"), true},
		{Temp("a-"), false},
	} {
		if x.got != x.want {
			t.Error(x)
		}
	}
}

// TestDashAndDot: they are for ids alone.
func TestDashAndDot(t *testing.T) {
	for _, s := range []string{"-", ".", "--", "..", "-a", ".a", "A-", "A.", "a-b", "a.b", "1-", "-1"} {
		if !ID(s) {
			t.Errorf("ID(%q): false", s)
		}
		if Type(s) || Field(s) || Temp(s) {
			t.Errorf("%q: a type %v, a field's name %v, a temporary name %v", s, Type(s), Field(s), Temp(s))
		}
	}
}
