package patch

import (
	"fmt"
	"slices"
	"strings"
	"testing"

	"folio/api"
)

// asTheyAre are the plain bytes.
const asTheyAre = "ABCDEFGHIJKLMNOPQRSTUVWXYZabcdefghijklmnopqrstuvwxyz0123456789-._|*@/:+,"

// written is a text as it is written, spelt out.
func written(text string) string {
	s := ""
	for i := range len(text) {
		if strings.IndexByte(asTheyAre, text[i]) >= 0 {
			s += text[i : i+1]
		} else {
			s += fmt.Sprintf("%%%02x", text[i])
		}
	}
	return s
}

// line is the words of edits, spelt out.
func line(l []api.Edit) string {
	var words []string
	for _, e := range l {
		words = append(words, e.Field+map[int]string{1: ":=", 2: "+=", 3: "-=", 4: "~", 5: "=="}[e.Kind]+written(e.Text))
	}
	return strings.Join(words, " ")
}

func TestPrintExamples(t *testing.T) {
	for _, x := range []struct {
		l    []api.Edit
		want string
	}{
		{edits(wipe("a"), set("c", "2"), add("c", "3")), "a~ c:=2 c+=3"},
		{nil, ""},
		{edits(), ""},
		{edits(set("a", "x")), "a:=x"},
		{edits(add("a", "x")), "a+=x"},
		{edits(drop("a", "x")), "a-=x"},
		{edits(wipe("a")), "a~"},
		{edits(test("a", "x")), "a==x"},
		{edits(set("a", ""), add("b", ""), drop("c", ""), test("d", "")), "a:= b+= c-= d=="},
		// As they come, doubles too.
		{edits(wipe("b"), wipe("a"), wipe("b")), "b~ a~ b~"},
		{edits(set("a", ":+-~="), set("b", "a b\u00e9%\x00\xff")), "a:=:+-%7e%3d b:=a%20b%c3%a9%25%00%ff"},
		{edits(set("birthDate", "1970-01-01"), drop("identifier", "mrn|7")), "birthDate:=1970-01-01 identifier-=mrn|7"},
	} {
		if s, e := Print(x.l); s != x.want || e != api.OK {
			t.Errorf("Print(%#v): %q, %v; want %q", x.l, s, e, x.want)
		}
	}
}

// TestPrintAndParse is P8.2: Parse of Print is the edits.
func TestPrintAndParse(t *testing.T) {
	for _, l := range goods() {
		s, e := Print(l)
		if s != line(l) || e != api.OK {
			t.Errorf("Print(%#v): %q, %v", l, s, e)
		}
		if got, e := Parse(s); !slices.Equal(got, l) || e != api.OK {
			t.Errorf("Parse(%q): %#v, %v", s, got, e)
		}
	}
	lists(append(alphabet(), set("a", "x y"), drop("a", "=="), test("a", "~")), 4, func(l []api.Edit) {
		s, e := Print(l)
		if got, f := Parse(s); s != line(l) || e != api.OK || !slices.Equal(got, l) || f != api.OK {
			t.Fatalf("Print(%#v): %q, %v; read again: %#v, %v", l, s, e, got, f)
		}
	})
}

func TestPrintOfOthers(t *testing.T) {
	for _, x := range bads() {
		if s, e := Print(x.l); s != "" || e != x.e {
			t.Errorf("Print(%#v): %q, %v; want %v", x.l, s, e, x.e)
		}
	}
}

func TestParseExamples(t *testing.T) {
	for _, x := range []struct {
		s    string
		want []api.Edit
	}{
		{"", nil},
		{"a~", edits(wipe("a"))},
		{"a:=", edits(set("a", ""))},
		{"a+=", edits(add("a", ""))},
		{"a-=", edits(drop("a", ""))},
		{"a==", edits(test("a", ""))},
		{"a:=x a+=x a-=x a~ a==x", edits(set("a", "x"), add("a", "x"), drop("a", "x"), wipe("a"), test("a", "x"))},
		{"b~ a~ b~", edits(wipe("b"), wipe("a"), wipe("b"))},
		// The first sign is the kind; those behind it that stand plain are text.
		{"a:=:", edits(set("a", ":"))},
		{"a-=b-c", edits(drop("a", "b-c"))},
		{"a==+", edits(test("a", "+"))},
		{"a+=2020-01-01", edits(add("a", "2020-01-01"))},
		{"a:=%3d a:=%3dx a==%7e", edits(set("a", "="), set("a", "=x"), test("a", "~"))},
		{"a:=%2525", edits(set("a", "%25"))},
		{"a-=%00%ff%20", edits(drop("a", "\x00\xff "))},
		{"a:=" + long(api.MaxText), edits(set("a", long(api.MaxText)))},
		{"a:=" + strings.Repeat("%20", api.MaxText), edits(set("a", strings.Repeat(" ", api.MaxText)))},
		{strings.Repeat("a", api.MaxName) + "~", edits(wipe(strings.Repeat("a", api.MaxName)))},
		{line(many(api.MaxEdits)), many(api.MaxEdits)},
	} {
		if l, e := Parse(x.s); !slices.Equal(l, x.want) || e != api.OK {
			t.Errorf("Parse(%q): %#v, %v; want %#v", x.s, l, e, x.want)
		}
	}
}

func TestParseOfOthers(t *testing.T) {
	wrong := []string{
		"a", "a:x", "a~x", "a=x", "a~  b~",
		" ", "  ", " a~", "a~ ", " a~ ", "a~ b", "b a~", "a~ b c~", "a:= ", "x", "A", "1", "\x00", "\xff", "\u00e9", "%", "a%3d1",
		"a:", "a+", "a-", "a=", ":", "+", "-", "=", "a+x", "a-x", "=x", ":x", "a:+=x", "a+:=x", "a-:=x", "a:~", "a+~", "a-~", "a=~", "a:-", "a::=x", "a=:x", "a-+=",
		"a~~", "a~=", "a~=x", "a~:=x", "a~==", "~~", "~x", "~=", "a~%", "a~%20", "a~\t",
		"a===", "a==x=y", "a:=x=", "a:=~", "a:=x~", "a:==", "a+==", "a-==x", "a:=b:=c=", "=x==",
		"a:=%3D", "a:=%4", "a:=%", "a+=%41", "a-=%2", "a==%zz", "a:=%2d", "a:=\u00e9", "a:=\x00", "a+=x\n", "a:=x\tb~", "a==\xff", "a:=\"",
		"a!x", "a^x", "a<x", "a?", "a>x",
	}
	for i := range 256 {
		s := string([]byte{byte(i)})
		if strings.Contains(asTheyAre, s) {
			wrong = append(wrong, "a:=%"+fmt.Sprintf("%02x", i))
		} else if s != " " {
			wrong = append(wrong, "a:="+s, "a+=x"+s+"y", "a-="+s+"x", "a==x"+s)
		}
		wrong = append(wrong, "a~"+s, "b~ a~"+s+"c")
		// A sign is followed by "=", and by no other.
		for _, sign := range []string{":", "+", "-", "="} {
			if s != "=" {
				wrong = append(wrong, "a"+sign+s, "a"+sign+s+"=x")
			}
		}
		if !strings.Contains(":+-~=", s) {
			wrong = append(wrong, "a"+s, s, s+"a", "a"+s+"b", "a~  "+s)
		}
	}
	for _, s := range wrong {
		// The one that stands among them rightly: a blank may part two words.
		if s == "b~ a~ c" {
			continue
		}
		if l, e := Parse(s); len(l) != 0 || e != api.ErrForm {
			t.Errorf("Parse(%q): %#v, %v", s, l, e)
		}
	}
}

func TestParseErrors(t *testing.T) {
	words := func(word string, n int) string { return strings.Join(slices.Repeat([]string{word}, n), " ") }
	for _, x := range []struct {
		s string
		e api.Errno
	}{
		{"A~", api.ErrName},
		{"~", api.ErrName},
		{"~ ~", api.ErrName},
		{":=", api.ErrName},
		{"+=x", api.ErrName},
		{"-=x", api.ErrName},
		{"==", api.ErrName},
		{"==x", api.ErrName},
		{"a~ B:=x", api.ErrName},
		{"B:=x a~", api.ErrName},
		{"1a~", api.ErrName},
		{"\xc3\x28\xff\xfe\xfd\xfc\xfb\xfa~", api.ErrName},
		// What can't be read is answered first, wherever it stands.
		{"A~ b", api.ErrForm},
		{"b A~", api.ErrForm},
		{"~ ", api.ErrForm},
		{"A~x", api.ErrForm},
		{"A:=%", api.ErrForm},
		{"a:=" + long(api.MaxText+1) + " b", api.ErrForm},
		{"a:=" + long(api.MaxText+1) + "=", api.ErrForm},
		{words("a~", api.MaxEdits+1) + " ", api.ErrForm},
		{words("a~", api.MaxEdits+1) + " b", api.ErrForm},
		{words("a~", 100000) + " b", api.ErrForm},
		{"b " + words("a~", 100000), api.ErrForm},
		// Then May's own order.
		{words("a~", api.MaxEdits+1), api.ErrLong},
		{words("A~", api.MaxEdits+1), api.ErrLong},
		{words("A~", api.MaxEdits), api.ErrName},
		{words("a:=", 100000), api.ErrLong},
		{words("a~", 2*api.MaxEdits) + " A~", api.ErrLong},
		{line(many(api.MaxEdits + 1)), api.ErrLong},
		{line(many(api.MaxEdits + 2)), api.ErrLong},
		{"a:=" + long(api.MaxText+1), api.ErrLong},
		{"a==" + strings.Repeat("%20", api.MaxText+1), api.ErrLong},
		{"a:=" + long(api.MaxText+1) + " B~", api.ErrName},
	} {
		if l, e := Parse(x.s); len(l) != 0 || e != x.e {
			t.Errorf("Parse(%q): %#v, %v; want %v", x.s, l, e, x.e)
		}
	}
	for _, name := range badNames() {
		for _, word := range []string{":=x", "+=x", "-=", "~", "=="} {
			if l, e := Parse("a~ " + name + word); len(l) != 0 || e != api.ErrName {
				t.Errorf("Parse(%q): %#v, %v", name+word, l, e)
			}
		}
	}
}

// spelt is what Parse should answer, spelt out, for lines of the bytes that TestParseEveryText has.
func spelt(s string) ([]api.Edit, api.Errno) {
	if s == "" {
		return nil, api.OK
	}
	var l []api.Edit
	for _, word := range strings.Split(s, " ") {
		n := 0
		for n < len(word) && (word[n] == 'a' || word[n] == 'A') {
			n++
		}
		name, rest := word[:n], word[n:]
		if rest == "~" {
			l = append(l, wipe(name))
			continue
		}
		if len(rest) < 2 || rest[0] == '~' || rest[1] != '=' || strings.ContainsAny(rest[2:], "~=") {
			return nil, api.ErrForm
		}
		l = append(l, other(map[byte]int{':': 1, '+': 2, '-': 3, '=': 5}[rest[0]], name, rest[2:]))
	}
	for _, e := range l {
		if e.Field == "" || e.Field[0] != 'a' {
			return nil, api.ErrName
		}
	}
	return l, api.OK
}

// TestParseEveryText: all texts of up to 6 of some telling bytes are tried; what is read is printed so again.
func TestParseEveryText(t *testing.T) {
	taken := 0
	lists([]byte("aA :+-~="), 6, func(b []byte) {
		s := string(b)
		want, e := spelt(s)
		got, f := Parse(s)
		if !slices.Equal(got, want) || e != f {
			t.Fatalf("Parse(%q): %#v, %v; want %#v, %v", s, got, f, want, e)
		}
		if f != api.OK {
			return
		}
		taken++
		if printed, e := Print(got); printed != s || e != api.OK {
			t.Fatalf("Parse(%q): %#v; printed %q, %v", s, got, printed, e)
		}
	})
	if taken < 1000 {
		t.Error("too few could be read to say anything:", taken)
	}
}
