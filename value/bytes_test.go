package value

import (
	"bytes"
	"slices"
	"strings"
	"testing"

	"folio/api"
)

// laid is a value as bytes, spelt out, whether it is normal or not.
func laid(v []api.Field) []byte {
	b := []byte{byte(len(v))}
	for _, f := range v {
		b = append(b, byte(len(f.Name)))
		b = append(b, f.Name...)
		b = append(b, byte(len(f.Texts)))
		for _, text := range f.Texts {
			b = append(b, byte(len(text)))
			b = append(b, text...)
		}
	}
	return b
}

func TestEncodeExamples(t *testing.T) {
	for _, x := range []struct {
		v    []api.Field
		want string
	}{
		{row(one("a", "x", "")), "\x01\x01a\x02\x01x\x00"},
		{nil, "\x00"},
		{row(), "\x00"},
		{row(one("ab", "\x00\xff"), one("b", "")), "\x02\x02ab\x01\x02\x00\xff\x01b\x01\x00"},
		{row(one("a", long(api.MaxText))), "\x01\x01a\x01\x80" + long(api.MaxText)},
		{row(one(strings.Repeat("a", api.MaxName), "x")), "\x01\x20" + strings.Repeat("a", api.MaxName) + "\x01\x01x"},
	} {
		if b, e := Encode(x.v); string(b) != x.want || e != api.OK {
			t.Errorf("Encode(%q): %q, %v", x.v, b, e)
		}
		if n := Size(x.v); n != len(x.want) {
			t.Errorf("Size(%q): %d", x.v, n)
		}
	}
	if n := Size(row(one("a", "x", ""))); n != 7 {
		t.Error(n)
	}
	// The greatest value: 16 fields with 33 bytes of name, and 8 texts with 129 bytes each.
	if n := Size(full()); n != 1+16*(33+1+8*129) {
		t.Error(n)
	}
}

// TestEncodeAndBack is P3.2: Decode of Encode is the value.
func TestEncodeAndBack(t *testing.T) {
	for _, v := range normals() {
		b, e := Encode(v)
		if !bytes.Equal(b, laid(v)) || e != api.OK || Size(v) != len(b) {
			t.Errorf("Encode(%q): %q, %v; Size: %d", v, b, e, Size(v))
		}
		if got, e := Decode(b); !same(got, v) || e != api.OK || !May(got) {
			t.Errorf("Decode(%q): %q, %v", b, got, e)
		}
	}
}

func TestEncodeOfOthers(t *testing.T) {
	for _, x := range unlikes() {
		if b, e := Encode(x.v); len(b) != 0 || e != api.ErrField {
			t.Errorf("Encode(%q): %q, %v", x.v, b, e)
		}
		if n := Size(x.v); n != 0 {
			t.Errorf("Size(%q): %d", x.v, n)
		}
	}
}

func TestDecodeOfOthers(t *testing.T) {
	wrong := []string{
		"", "\x01", "\x00\x00", "\x00x", "\x01\x01\x41\x01\x00",
		"\x02\x01a\x01\x01x",               // a field too few
		"\x00\x01a\x01\x01x",               // a field too many
		"\x01\x01a\x00",                    // without texts
		"\x01\x01a\x01\x01x\x00",           // a byte too many
		"\x01\x00\x01\x01x",                // without a name
		"\x02\x01b\x01\x01x\x01a\x01\x01x", // out of order
		"\x02\x01a\x01\x01x\x01a\x01\x01x", // a double name
		"\x02\x01a\x01\x01x\x01b\x00",      // the second without texts
		"\x03\x01a\x01\x01x\x01b\x01\x01y", // three where there are two
		"\x02\x01a\x01\x01x\x01b\x02\x01y", // two texts where there is one
		"\x02\x01a\x01\x01x\x01b\x01\x02y", // two bytes where there is one
		"\x01\x02a\x01\x01x",               // a name that takes the count's byte
		"\x01\x01a\xff\x01x", "\x01\xffa",  // counts that nothing meets
		"\xff", "\xff\xff", "\xff\xff\xff\x01",
	}
	for _, x := range unlikes() {
		wrong = append(wrong, string(laid(x.v)))
	}
	for _, s := range wrong {
		if v, e := Decode([]byte(s)); len(v) != 0 || e != api.ErrForm {
			t.Errorf("Decode(%q): %q, %v", s, v, e)
		}
	}
	if v, e := Decode(nil); len(v) != 0 || e != api.ErrForm {
		t.Errorf("Decode(nil): %q, %v", v, e)
	}
	if v, e := Decode([]byte{0}); len(v) != 0 || e != api.OK {
		t.Errorf("Decode(00): %q, %v", v, e)
	}
}

// TestDecodeCutShort: no bytes of a value are those of another with some behind them.
func TestDecodeCutShort(t *testing.T) {
	for _, v := range normals() {
		b := laid(v)
		for i := range b {
			if got, e := Decode(b[:i]); len(got) != 0 || e != api.ErrForm {
				t.Fatalf("Decode(%q): %q, %v", b[:i], got, e)
			}
		}
		for _, more := range []string{"\x00", "\x01", "x", "\x01x\x01\x00"} {
			if got, e := Decode(append(slices.Clone(b), more...)); len(got) != 0 || e != api.ErrForm {
				t.Fatalf("Decode(%q and %q): %q, %v", b, more, got, e)
			}
		}
	}
}

// TestDecodeAndBack is P3.2: Encode of Decode is the bytes. Each byte of some is set to all others.
func TestDecodeAndBack(t *testing.T) {
	read := 0
	for _, v := range [][]api.Field{
		nil,
		row(one("a", "x", "")),
		row(one("a", "x", ""), one("b", "1 2")),
		row(one("aB", "\x01\x00", "\x01"), one("aa", "", "", "\x02")),
		wide(api.MaxFields),
	} {
		start := laid(v)
		for i := range start {
			for x := range 256 {
				b := slices.Clone(start)
				b[i] = byte(x)
				got, e := Decode(b)
				if e == api.ErrForm && got == nil {
					continue
				}
				read++
				if e != api.OK || !May(got) || !bytes.Equal(laid(got), b) {
					t.Fatalf("Decode(%q): %q, %v", b, got, e)
				}
				if back, e := Encode(got); !bytes.Equal(back, b) || e != api.OK {
					t.Fatalf("Encode(%q): %q, %v", got, back, e)
				}
			}
		}
	}
	if read < 1000 {
		t.Error("too few could be read to say anything:", read)
	}
}
