package value

import (
	"strings"

	"folio/api"
)

// plain are the bytes that a written text has as they are: each row is the first and the last of a run.
var plain = [...][2]byte{
	{'a', 'z'}, {'A', 'Z'}, {'0', '9'},
	{'-', '-'}, {'.', '.'}, {'_', '_'}, {'|', '|'}, {'*', '*'},
	{'@', '@'}, {'/', '/'}, {':', ':'}, {'+', '+'}, {',', ','},
}

// digits write a byte that isn't plain, two of them behind a percent sign.
const digits = "0123456789abcdef"

const percent = '%'

// equals stands between a name and its text, blank between words.
const (
	equals = "="
	blank  = " "
)

func isPlain(b byte) bool {
	for _, run := range plain {
		if run[0] <= b && b <= run[1] {
			return true
		}
	}
	return false
}

// Write writes a text.
func Write(text string) string {
	var w strings.Builder
	// By bytes, not by runes: a text may be any bytes.
	for i := 0; i < len(text); i++ {
		b := text[i]
		if isPlain(b) {
			w.WriteByte(b)
			continue
		}
		w.WriteByte(percent)
		w.WriteByte(digits[b>>4])
		w.WriteByte(digits[b&15])
	}
	return w.String()
}

// Read reads what Write writes.
func Read(s string) (string, api.Errno) {
	var w strings.Builder
	for len(s) > 0 {
		b, size := first(s)
		if size == 0 {
			return "", api.ErrForm
		}
		w.WriteByte(b)
		s = s[size:]
	}
	return w.String(), api.OK
}

// first is the byte that stands first in a written text, and how many bytes it is written with: none, if nothing is written so.
func first(s string) (b byte, size int) {
	if isPlain(s[0]) {
		return s[0], 1
	}
	if s[0] != percent || len(s) < 3 {
		return 0, 0
	}
	high, low := strings.IndexByte(digits, s[1]), strings.IndexByte(digits, s[2])
	if high < 0 || low < 0 {
		return 0, 0
	}
	b = byte(high<<4 | low)
	// Each text is written in one way: a plain byte stands as it is.
	if isPlain(b) {
		return 0, 0
	}
	return b, 3
}

// Print is a value's line.
func Print(v []api.Field) (string, api.Errno) {
	if !May(v) {
		return "", api.ErrField
	}
	var words []string
	for _, f := range v {
		for _, text := range f.Texts {
			words = append(words, f.Name+equals+Write(text))
		}
	}
	return strings.Join(words, blank), api.OK
}

// Parse reads a line.
func Parse(s string) ([]api.Field, api.Errno) {
	if s == "" {
		return nil, api.OK
	}
	var v []api.Field
	for word := range strings.SplitSeq(s, blank) {
		f, e := field(word)
		if e != api.OK {
			return nil, e
		}
		v = append(v, f)
	}
	return Norm(v)
}

// field is the field with one text that a word of a line says; what its name may be is left to Norm.
func field(word string) (api.Field, api.Errno) {
	name, written, found := strings.Cut(word, equals)
	text, e := Read(written)
	if !found || e != api.OK {
		return api.Field{}, api.ErrForm
	}
	return api.Field{Name: name, Texts: []string{text}}, api.OK
}
