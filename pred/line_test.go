package pred

import (
	"fmt"
	"slices"
	"strings"
	"testing"

	"folio/api"
)

// asTheyAre are the plain bytes.
const asTheyAre = "ABCDEFGHIJKLMNOPQRSTUVWXYZabcdefghijklmnopqrstuvwxyz0123456789-._|*@/:+,"

// written is a text as it is written, spelt out.
func written(text string) string {
	s := ""
	for i := range len(text) {
		if strings.IndexByte(asTheyAre, text[i]) >= 0 {
			s += text[i : i+1]
		} else {
			s += fmt.Sprintf("%%%02x", text[i])
		}
	}
	return s
}

// line is the words of terms, in the order in which they stand, spelt out.
func line(p []api.Term) string {
	var words []string
	for _, t := range p {
		words = append(words, t.Field+map[int]string{1: "=", 2: "!", 3: "^", 4: "<", 5: ">", 6: "?", 7: "-"}[t.Op]+written(t.Text))
	}
	return strings.Join(words, " ")
}

func TestPrintExamples(t *testing.T) {
	for _, x := range []struct {
		p    []api.Term
		want string
	}{
		{terms(is("a", "x"), has("b")), "a=x b?"},
		{terms(has("b"), is("a", "x"), is("a", "x")), "a=x b?"},
		{nil, ""},
		{terms(), ""},
		{terms(lacks("a"), has("a"), above("a", "1"), below("a", "2"), begins("a", "3"), not("a", "4"), is("a", "5")), "a=5 a!4 a^3 a<2 a>1 a? a-"},
		{terms(is("a", ""), not("b", ""), begins("c", ""), below("d", ""), above("e", "")), "a= b! c^ d< e>"},
		{terms(is("a", "=!^<>?-"), is("b", "a b\u00e9%\x00\xff")), "a=%3d%21%5e%3c%3e%3f- b=a%20b%c3%a9%25%00%ff"},
		{terms(below("birthDate", "1970-01-01"), is("identifier", "mrn|7")), "birthDate<1970-01-01 identifier=mrn|7"},
	} {
		if s, e := Print(x.p); s != x.want || e != api.OK {
			t.Errorf("Print(%#v): %#v, %v; want %#v", x.p, s, e, x.want)
		}
	}
}

// TestPrintAndParse is P4.2: Parse of Print is Norm.
func TestPrintAndParse(t *testing.T) {
	for _, p := range normals() {
		s, e := Print(p)
		if s != line(p) || e != api.OK {
			t.Errorf("Print(%#v): %#v, %v", p, s, e)
		}
		if got, e := Parse(s); !same(got, p) || e != api.OK {
			t.Errorf("Parse(%#v): %#v, %v", s, got, e)
		}
	}
	for _, x := range unlikes() {
		s, e := Print(x.p)
		if s != line(x.want) || e != x.e {
			t.Errorf("Print(%#v): %#v, %v; want %v", x.p, s, e, x.e)
		}
		if got, e := Parse(s); !same(got, x.want) || e != api.OK {
			t.Errorf("Parse(%#v): %#v, %v", s, got, e)
		}
	}
}

// TestPrintOfLists is P4.2, for all lists of up to 4 of some terms; the line is one, whatever their order.
func TestPrintOfLists(t *testing.T) {
	lists(terms(has("b"), is("a", "x y"), lacks("a"), not("a", "-"), above("b", "")), 4, func(p []api.Term) {
		normal, _ := Norm(p)
		s, e := Print(p)
		if s != line(normal) || e != api.OK {
			t.Fatalf("Print(%#v): %#v, %v", p, s, e)
		}
		if got, e := Parse(s); !same(got, normal) || e != api.OK {
			t.Fatalf("Parse(%#v): %#v, %v", s, got, e)
		}
		if got, e := Parse(line(p)); !same(got, normal) || e != api.OK {
			t.Fatalf("Parse(%#v): %#v, %v", line(p), got, e)
		}
	})
}

func TestParseExamples(t *testing.T) {
	for _, x := range []struct {
		s    string
		want []api.Term
	}{
		{"b? a=x a=x", terms(is("a", "x"), has("b"))},
		{"", nil},
		{"a=", terms(is("a", ""))},
		{"a!", terms(not("a", ""))},
		{"a^", terms(begins("a", ""))},
		{"a<", terms(below("a", ""))},
		{"a>", terms(above("a", ""))},
		{"a?", terms(has("a"))},
		{"a-", terms(lacks("a"))},
		{"a=x a!x a^x a<x a>x", terms(is("a", "x"), not("a", "x"), begins("a", "x"), below("a", "x"), above("a", "x"))},
		// The first sign is the operator; those behind it that stand plain are text.
		{"a=-", terms(is("a", "-"))},
		{"a=b-c", terms(is("a", "b-c"))},
		{"a>2020-01-01", terms(above("a", "2020-01-01"))},
		{"a!-", terms(not("a", "-"))},
		{"a=%3d a=%2525", terms(is("a", "%25"), is("a", "="))},
		{"a^%00%ff%20", terms(begins("a", "\x00\xff "))},
		{"b=1 aa=1 a=2 aA=1 a=1", terms(is("a", "1"), is("a", "2"), is("aA", "1"), is("aa", "1"), is("b", "1"))},
		{"a=mrn|7 a!mrn|", terms(is("a", "mrn|7"), not("a", "mrn|"))},
		{"a=" + long(api.MaxText), terms(is("a", long(api.MaxText)))},
		{"a=" + strings.Repeat("%20", api.MaxText), terms(is("a", strings.Repeat(" ", api.MaxText)))},
		{strings.Repeat("a", api.MaxName) + "-", terms(lacks(strings.Repeat("a", api.MaxName)))},
		{"a? a? a? a? a? a? a? a?", terms(has("a"))},
	} {
		if p, e := Parse(x.s); !same(p, x.want) || e != api.OK {
			t.Errorf("Parse(%#v): %#v, %v; want %#v", x.s, p, e, x.want)
		}
	}
}

func TestParseOfOthers(t *testing.T) {
	wrong := []string{
		"a", "a?x", "a=x  b?", "a=%41",
		" ", "  ", " a?", "a? ", " a? ", "a?  b?", "a? b", "b a?", "a? b c?", "a= ", "x", "A", "1", "\x00", "\xff", "\u00e9", "%", "a%3d1",
		"a-x", "a-=", "a-b=1", "a--", "a??", "a?=", "a?-", "a-?", "a?%", "a-%20", "a?%20", "?x", "-x", "a\t?b",
		"a==", "a=x=y", "a!=x", "a!!", "a<=x", "a>=x", "a<>", "a^^", "a=^", "a=x?", "a=x!", "a!?", "=x=", "a=b=c",
		"a=%3D", "a=%4", "a=%", "a!%", "a^%2", "a<%zz", "a>%2d", "a=\u00e9", "a=\x00", "a=x\n", "a=x\tb?", "a=\xff", "a^\"", "a~x", "a:x", "a+",
	}
	for i := range 256 {
		s := string([]byte{byte(i)})
		if strings.Contains(asTheyAre, s) {
			wrong = append(wrong, "a?"+s, "a-"+s, "a=%"+fmt.Sprintf("%02x", i))
		} else if s != " " {
			wrong = append(wrong, "a=x"+s+"y", "a!"+s, "a^"+s, "a<"+s, "a>x"+s, "a?"+s, "a-"+s)
		}
		if !strings.Contains("=!^<>?-", s) {
			wrong = append(wrong, "a"+s, s, s+"a", "a"+s+"b", "a?  "+s)
		}
	}
	for _, s := range wrong {
		if p, e := Parse(s); len(p) != 0 || e != api.ErrForm {
			t.Errorf("Parse(%#v): %#v, %v", s, p, e)
		}
	}
}

func TestParseErrors(t *testing.T) {
	words := func(word string, n int) string { return strings.Join(slices.Repeat([]string{word}, n), " ") }
	for _, x := range []struct {
		s string
		e api.Errno
	}{
		{"A=x", api.ErrName},
		{"=", api.ErrName},
		{"?", api.ErrName},
		{"-", api.ErrName},
		{"-  -", api.ErrForm},
		{"- -", api.ErrName},
		{"=x", api.ErrName},
		{"a? B-", api.ErrName},
		{"1a?", api.ErrName},
		{"a.b=x", api.ErrName},
		{"a%20b=1", api.ErrName},
		{"a\tb=1", api.ErrName},
		{"\u00e4=1", api.ErrName},
		{"\xc3=1", api.ErrName},
		{"\xc3\x28\xff\xfe\xfd\xfc\xfb\xfa?", api.ErrName},
		{"\x00-", api.ErrName},
		{"a\n?", api.ErrName},
		{strings.Repeat("a", api.MaxName+1) + "?", api.ErrName},
		// What can't be read is answered first, wherever it stands.
		{"A=1 b", api.ErrForm},
		{"b A=1", api.ErrForm},
		{"=1 ", api.ErrForm},
		{"A? b=%", api.ErrForm},
		{"A?x", api.ErrForm},
		{"a=" + long(api.MaxText+1) + " b", api.ErrForm},
		{words("a?", api.MaxTerms+1) + " ", api.ErrForm},
		{words("a?", api.MaxTerms+1) + " b", api.ErrForm},
		// Then Norm's own order.
		{words("a?", api.MaxTerms+1), api.ErrLong},
		{words("A?", api.MaxTerms+1), api.ErrLong},
		{words("A?", api.MaxTerms), api.ErrName},
		{line(wide(api.MaxTerms + 1)), api.ErrLong},
		{"a=" + long(api.MaxText+1), api.ErrLong},
		{"a>" + strings.Repeat("%20", api.MaxText+1), api.ErrLong},
		{"a=" + long(api.MaxText+1) + " B?", api.ErrName},
		{words("a=", 100000), api.ErrLong},
	} {
		if p, e := Parse(x.s); len(p) != 0 || e != x.e {
			t.Errorf("Parse(%#v): %#v, %v; want %v", x.s, p, e, x.e)
		}
	}
}

// read is what Parse should answer, spelt out, for words of the bytes that TestParseEveryText has.
func read(s string) ([]api.Term, api.Errno) {
	var p []api.Term
	if s == "" {
		return nil, api.OK
	}
	for _, word := range strings.Split(s, " ") {
		n := 0
		for n < len(word) && !strings.Contains("=!^<>?-", word[n:n+1]) {
			n++
		}
		if n == len(word) || strings.Trim(word[n+1:], "aA-") != "" {
			return nil, api.ErrForm
		}
		t := other(word[:n], 1+strings.Index("=!^<>?-", word[n:n+1]), word[n+1:])
		if t.Op >= api.OpHas && t.Text != "" {
			return nil, api.ErrForm
		}
		p = append(p, t)
	}
	for _, t := range p {
		if t.Field == "" || t.Field[0] != 'a' {
			return nil, api.ErrName
		}
	}
	slices.SortFunc(p, func(a, b api.Term) int {
		if ahead(a, b) {
			return -1
		}
		return 1
	})
	return slices.Compact(p), api.OK
}

// TestParseEveryText: all texts of up to 5 of some telling bytes are tried; what is read and printed is read so again.
func TestParseEveryText(t *testing.T) {
	lists([]byte("aA =!<?-"), 5, func(b []byte) {
		s := string(b)
		want, e := read(s)
		got, f := Parse(s)
		if !same(got, want) || e != f {
			t.Fatalf("Parse(%#v): %#v, %v; want %#v, %v", s, got, f, want, e)
		}
		if f != api.OK {
			return
		}
		printed, _ := Print(got)
		if again, e := Parse(printed); printed != line(want) || !same(again, want) || e != api.OK {
			t.Fatalf("Parse(%#v): %#v; printed %#v, and read again %#v, %v", s, got, printed, again, e)
		}
	})
}
