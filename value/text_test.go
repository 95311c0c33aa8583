package value

import (
	"fmt"
	"maps"
	"strings"
	"testing"

	"folio/api"
)

// asTheyAre are the plain bytes.
const asTheyAre = "ABCDEFGHIJKLMNOPQRSTUVWXYZabcdefghijklmnopqrstuvwxyz0123456789-._|*@/:+,"

// spelt is a byte as it is written.
func spelt(b byte) string {
	if strings.IndexByte(asTheyAre, b) >= 0 {
		return string([]byte{b})
	}
	return fmt.Sprintf("%%%02x", b)
}

func TestWriteExamples(t *testing.T) {
	for text, want := range map[string]string{
		"a b=\u00e9":             "a%20b%3d%c3%a9",
		"":                       "",
		asTheyAre:                asTheyAre,
		"%":                      "%25",
		"%25":                    "%2525",
		"\x00\x0f\x10\x7f\xff":   "%00%0f%10%7f%ff",
		"mrn|7 \n":               "mrn|7%20%0a",
		"\xef\xbf\xbd":           "%ef%bf%bd",
		"!\"#$&'();<>?[\\]^`{}~": "%21%22%23%24%26%27%28%29%3b%3c%3e%3f%5b%5c%5d%5e%60%7b%7d%7e",
	} {
		if got := Write(text); got != want {
			t.Errorf("Write(%q): %q; want %q", text, got, want)
		}
		if got, e := Read(want); got != text || e != api.OK {
			t.Errorf("Read(%q): %q, %v; want %q", want, got, e, text)
		}
	}
}

// TestWriteAndRead is P3.2: Read of Write is the text, for every byte, alone and beside each other one, and for texts longer than a value's.
func TestWriteAndRead(t *testing.T) {
	back := func(text, want string) {
		t.Helper()
		written := Write(text)
		if written != want {
			t.Fatalf("Write(%q): %q; want %q", text, written, want)
		}
		if got, e := Read(written); got != text || e != api.OK {
			t.Fatalf("Read(%q): %q, %v; want %q", written, got, e, text)
		}
	}
	for i := range 256 {
		a := byte(i)
		back(string([]byte{a}), spelt(a))
		for j := range 256 {
			b := byte(j)
			back(string([]byte{a, b}), spelt(a)+spelt(b))
			back(string([]byte{'x', a, b, '='}), "x"+spelt(a)+spelt(b)+"%3d")
		}
	}
	back(long(api.MaxText+1), long(api.MaxText+1))
	back(strings.Repeat(" ", 100000), strings.Repeat("%20", 100000))
}

// written are all written texts of at most size bytes that have no others than those of telling, each with its text.
func written(telling string, size int) map[string]string {
	all := map[string]string{"": ""}
	for range size {
		for s, text := range maps.Clone(all) {
			for i := range 256 {
				b := byte(i)
				if more := s + spelt(b); len(more) <= size && strings.Trim(more, telling) == "" {
					all[more] = text + string([]byte{b})
				}
			}
		}
	}
	return all
}

// TestReadAndWrite is P3.2: Write of Read is what was read. All texts of up to 4 of some telling bytes are tried: those that are written so are read, and no others.
func TestReadAndWrite(t *testing.T) {
	const telling, size = "a4%2fF =g0.", 4
	all := written(telling, size)
	texts := []string{""}
	for i := 0; i < len(texts); i++ {
		s := texts[i]
		want, found := all[s]
		got, e := Read(s)
		if found && (got != want || e != api.OK) || !found && (got != "" || e != api.ErrForm) {
			t.Fatalf("Read(%q): %q, %v; want %q, %v", s, got, e, want, found)
		}
		if e == api.OK && Write(got) != s {
			t.Fatalf("Write(%q): %q; want %q", got, Write(got), s)
		}
		for j := range len(telling) {
			if len(s) < size {
				texts = append(texts, s+telling[j:j+1])
			}
		}
	}
}

// TestReadTwoDigits: of all pairs of bytes behind a percent sign, those are read that write a byte which isn't plain.
func TestReadTwoDigits(t *testing.T) {
	bytes := map[string]byte{}
	for i := range 256 {
		bytes[spelt(byte(i))] = byte(i)
	}
	read := 0
	for i := range 256 {
		for j := range 256 {
			s := string([]byte{'%', byte(i), byte(j)})
			b, found := bytes[s]
			got, e := Read(s)
			if !found && (got != "" || e != api.ErrForm) {
				t.Fatalf("Read(%q): %q, %v", s, got, e)
			}
			if found && (got != string([]byte{b}) || e != api.OK) {
				t.Fatalf("Read(%q): %q, %v", s, got, e)
			}
			if e == api.OK {
				read++
			}
		}
	}
	if read != 256-len(asTheyAre) {
		t.Error("how many are read:", read)
	}
}

func TestReadOfOthers(t *testing.T) {
	wrong := []string{
		"%3D", "%41", "a b", "%4", "%", "a%", "a%2", "%2", "%%", "%%20", "%25%", "%25%2", "%20%",
		"%C3%A9", "%c3%A9", "%C3%a9", "%2D", "%2d", "%7C", "%7c", "%5f", "%5F", "%61", "%30", "%2a", "%40", "%2f", "%3a", "%2b", "%2c", "%2e",
		" ", "=", "\x00", "\n", "\u00e9", "\xff", "a=", "=a", "a\x00b", "%2g", "%g2", "%g0", "%0g", "% 20", "%-1", "%+1", "%0x", "%20 ", " %20", "abc%2 ", "%2\u00e9",
	}
	for i := range 256 {
		b := byte(i)
		s := string([]byte{b})
		if strings.Contains(asTheyAre, s) {
			wrong = append(wrong, fmt.Sprintf("%%%02x", b), fmt.Sprintf("%%%02X", b), fmt.Sprintf("a%%%02xb", b))
		} else {
			wrong = append(wrong, s, s+"a", "a"+s, "a"+s+"b", "%2"+s)
		}
		if big := fmt.Sprintf("%%%02X", b); big != spelt(b) {
			wrong = append(wrong, big)
		}
	}
	for _, s := range wrong {
		if got, e := Read(s); got != "" || e != api.ErrForm {
			t.Errorf("Read(%q): %q, %v", s, got, e)
		}
	}
}
