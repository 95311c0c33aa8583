package op

import (
	"strings"
	"testing"

	"folio/api"
)

// TestLines is P16.1 and P16.2 of Print and Parse: the examples, there and back.
func TestLines(t *testing.T) {
	for _, x := range examples() {
		if s, e := Print(x.r); s != x.s || e != api.OK {
			t.Errorf("Print(%+v): %q, %v; want %q", x.r, s, e, x.s)
		}
		if r, e := Parse(x.s); !alike(r, x.r) || e != api.OK {
			t.Errorf("Parse(%q): %+v, %v; want %+v", x.s, r, e, x.r)
		}
	}
	for _, x := range examples() {
		for _, y := range examples() {
			pair(t, x, y)
		}
	}
}

// pair is two requests joined, as far as there may be so many entries.
func pair(t *testing.T, x, y lined) {
	t.Helper()
	r := api.Request{Once: x.r.Once}
	r.Entries = append(append(r.Entries, x.r.Entries...), y.r.Entries...)
	s := x.s + " ; " + strings.TrimPrefix(y.s, "once ")
	want, no := api.Request{}, api.ErrForm
	if len(r.Entries) <= api.MaxEntries {
		want, no = r, api.OK
	}
	if got, e := Parse(s); !alike(got, want) || e != no {
		t.Errorf("Parse(%q): %+v, %v; want %v", s, got, e, no)
	}
	if got, e := Print(r); e != no || e == api.OK && got != s {
		t.Errorf("Print(%+v): %q, %v; want %v", r, got, e, no)
	}
	// "once " stands ahead of the first entry alone.
	if y.r.Once {
		refused(t, x.s+" ; "+y.s)
	}
}

func refused(t *testing.T, s string) {
	t.Helper()
	if r, e := Parse(s); !alike(r, api.Request{}) || e != api.ErrForm {
		t.Errorf("Parse(%q): %+v, %v", s, r, e)
	}
}

// TestMadeNormal is P16.1 of Parse: words of fields and terms in another order, and doubles.
func TestMadeNormal(t *testing.T) {
	for _, x := range [][2]string{
		{"create A/a b=1 a=2 b=3", "create A/a a=2 b=1 b=3"},
		{"create A/a b=3 a=2 b=1", "create A/a a=2 b=3 b=1"},
		{"create A/a a=1 a=1", "create A/a a=1 a=1"},
		{"create @x A/a b=1 if=2 a=1", "create @x A/a a=1 b=1 if=2"},
		{"update A/a if 2 b=1 a=2", "update A/a if 2 a=2 b=1"},
		{"ensure A/a b=1 a=1 ? b? a=x a=x", "ensure A/a a=1 b=1 ? a=x b?"},
		{"search A b- a? a? a=2 a=1 a!1", "search A a=1 a=2 a!1 a? b-"},
		{"search A a? a? a? a? a? a? a? a?", "search A a?"},
		{"find 3 A b- a-", "find 3 A a- b-"},
		{"once search A b- a- ; find 3 A b- a- ; create A/a b= a=", "once search A a- b- ; find 3 A a- b- ; create A/a a= b="},
		// The words of edits stay as they are.
		{"patch A/a b~ a~ b~ a~", "patch A/a b~ a~ b~ a~"},
	} {
		r, e := Parse(x[0])
		s, no := Print(r)
		if e != api.OK || no != api.OK || s != x[1] || !May(r) {
			t.Errorf("Parse(%q): %v; Print of it %q, %v; want %q", x[0], e, s, no, x[1])
		}
		if again, e := Parse(s); e != api.OK || !alike(again, r) {
			t.Errorf("Parse(%q): %+v, %v; want %+v", s, again, e, r)
		}
	}
}

// TestRefused is P16.1 of Parse: what is no line is ErrForm, whatever the layers below call it.
func TestRefused(t *testing.T) {
	_, wide := wideValue(api.MaxFields + 1)
	_, terms := manyTerms(api.MaxTerms + 1)
	_, edits := manyEdits(api.MaxEdits + 1)
	name, text := strings.Repeat("a", api.MaxName+1), strings.Repeat("a", api.MaxText+1)
	for _, s := range []string{
		"", "read", "read A/a x", "update A/a if 0 a=1", "number A/a 01", "read A/a;read A/b", "read A/a ; ", "patch A/a", "ensure A/a a=1", "since A 18446744073709551616",
		// Words that aren't there, are none, or are too many.
		" ", "  ", ";", " ; ", " ; read A/a", "; read A/a", "read A/a ;", "read A/a ; ; read A/a", "read A/a ;  ; read A/a", "read A/a  ; read A/a", "read A/a ;  read A/a", "read A/a; read A/a", "read A/a ;read A/a",
		"once", "once ", "once  read A/a", " once read A/a", "once once read A/a", "Once read A/a", "onceread A/a", "once\tread A/a", "read A/a once", "read A/a ; once read A/a", "once ; read A/a",
		"fly A/a", "Read A/a", "reads A/a", "rea A/a", "A/a", "create", "ensure", "update", "patch", "delete", "number", "search", "history", "since", "at", "find", "?", "@x", "if 1",
		" read A/a", "read A/a ", "read  A/a", "read A/a\n", "read\tA/a", "read A/a\x00", "read @x A/a", "read A", "read A/", "read /a", "read a/a", "read A/a/a", "read A/a A/a", "read A/a if 1", "read A/a a=1", "read A/a 1",
		// Temporary names.
		"create @ A/a", "create @x", "create @x @y A/a", "create A/a @x", "create @@x A/a", "create @x-y A/a", "create @" + name + " A/a", "create x A/a", "create @x  A/a", "update @x A/a a=1", "patch @x A/a a~", "delete @x A/a", "search @x A", "ensure @ A/a ?", "ensure @A/a ?",
		// Values.
		"create A/a ", "create A/a a", "create A/a A=1", "create A/a =1", "create A/a a=%", "create A/a a=%41", "create A/a a=1  b=2", "create A/a a=1 ", "create A/a  a=1", "create A/a a=1;b=2", "create A/a a=1 ?", "create A/a ?", "create A/a a=1 ? a=1", "create A/a a?", "create A/a a~",
		"create A/a " + wide, "create A/a a= a= a= a= a= a= a= a= a=", "create A/a a=" + text, "create A/a " + name + "=1", "create A", "create A a=1", "create A/a B/b", "create A/a if 1", "create A/a if 1 a=1", "create if 1 A/a",
		"update A/a ? a=1", "update A/a a=1 ?", "update A/a ", "update A/a A=1", "update A/a a=1 a",
		// Ensures and their sign.
		"ensure A/a", "ensure A/a a=1 a=1", "ensure A/a a=1 ? ", "ensure A/a a=1  ? a=1", "ensure A/a a=1 ?  a=1", "ensure A/a a=1 ? ?", "ensure A/a ? ?", "ensure A/a ? a=1 ?", "ensure A/a ? a=1 ? a=1", "ensure A/a a=1 ?a=1", "ensure A/a a=1? a=1", "ensure ? A/a", "ensure A/a if 1 a=1 ? a=1", "ensure A/a a? ? a?", "ensure A/a a=1 ? a", "ensure A/a a=1 ? A?", "ensure A/a ? " + terms, "ensure A/a ? a=" + text, "ensure A/a A=1 ?", "ensure A/a " + wide + " ?",
		// Conditions.
		"update A/a if", "update A/a if ", "update A/a if a=1", "update A/a if  1", "update A/a if 01", "update A/a if 00", "update A/a if -1", "update A/a if +1", "update A/a if 1000000000", "update A/a if 18446744073709551617", "update A/a if 1x", "update A/a if 0x1", "update A/a if 1_0", "update A/a if 1.0", "update A/a if 1e1", "update A/a if 1 if 1", "update A/a a=1 if 1", "update if 1 A/a a=1", "update A/a IF 1", "update A/a if1", "update A/a if1 a=1", "update A/a if \uff11",
		"patch A/a if 1", "patch A/a if", "patch A/a if 0 a~", "patch A/a if a~", "patch A/a a~ if 1", "patch A/a if 1 if 1 a~", "delete A/a if", "delete A/a if 0", "delete A/a if 1 if 1", "delete A/a if 1 a=1", "delete A/a 1", "delete A/a a=1", "delete A/a a~", "delete A/a ", "delete A/a if 1 ", "delete A",
		"read A/a if 1", "number A/a if 1 1", "number A/a 1 if 1", "search A if 1", "history A/a if 1 1", "since A if 1 1", "at 1 A/a if 1", "find 1 A if 1",
		// Edits.
		"patch A/a ", "patch A/a a", "patch A/a a=1", "patch A/a A~", "patch A/a a~ ", "patch A/a a~  b~", "patch A/a a:1", "patch A/a a~x", "patch A/a " + edits, "patch A/a a:=" + text, "patch A/a " + name + "~", "patch A a~", "patch A/a a? ",
		// Numbers and stamps.
		"number A/a", "number A/a -1", "number A/a +1", "number A/a 1000000000", "number A/a 0000000001", "number A/a 00", "number A/a 4294967297", "number A/a 18446744073709551616", "number A/a 1 1", "number A/a x", "number 1 A/a", "number A 1", "number A/a 1 ", "number A/a  1", "number A/a 0x1", "number A/a 1_0", "number A/a 1.", "number A/a \u0661",
		"history A/a", "history A 1", "history A/a 01", "history A/a -1", "history A/a +1", "history A/a 18446744073709551616", "history A/a 99999999999999999999", "history A/a 100000000000000000000", "history A/a 1 1", "history 1 A/a", "history A/a x", "history A/a 0_0", "history A/a ",
		"since A", "since A/a 1", "since 1 A", "since A 00", "since A 1 a=1", "since A 1 1", "since a 1", "since A -0", "since A 1x", "since A 36893488147419103232",
		"at 1", "at A/a 1", "at 01 A/a", "at 1 A", "at 1 A/a 1", "at A/a", "at -1 A/a", "at 18446744073709551616 A/a", "at 1 A/a a=1", "at  1 A/a",
		// Types and terms.
		"search", "search A/a", "search a", "search A1", "search A/", "search " + strings.Repeat("A", api.MaxName+1), "search A a", "search A ", "search A  a?", "search A a? ", "search A A?", "search A ?", "search A ? a?", "search A a?x", "search A " + terms, "search A a? a? a? a? a? a? a? a? a?", "search A a=" + text, "search A B", "search A 1", "search A a=1;", "search A a:=1",
		"find 1", "find A", "find A 1", "find 1 A/a", "find 01 A", "find 1 a", "find 1 A a", "find 1 A 1", "find 1 A ? a=1", "find 1 A ", "find 1  A", "find x A", "find 18446744073709551616 A", "find 1 A " + terms, "find A a=1", "find 1 A A?",
		// Too many entries.
		strings.Repeat("read A/a ; ", api.MaxEntries) + "read A/a", "once " + strings.Repeat("read A/a ; ", api.MaxEntries) + "read A/a", strings.Repeat("read A/a ; ", 999) + "read A/a", strings.Repeat(" ; ", api.MaxEntries),
	} {
		refused(t, s)
	}
}

// TestBytes is P16.1 of Parse: each byte put into, or instead of one of, lines that are.
func TestBytes(t *testing.T) {
	for _, s := range []string{"once create @x A/a a=1", "ensure A/a a=1 ? a=1", "update A/a if 2 a=1", "patch A/a if 1 a~", "number A/a 10", "find 5 A a? ; at 5 A/b"} {
		for i := range len(s) + 1 {
			for b := range 256 {
				checked(t, s[:i]+string([]byte{byte(b)})+s[i:])
				if i < len(s) {
					checked(t, s[:i]+string([]byte{byte(b)})+s[i+1:])
				}
			}
			checked(t, s[:i])
			checked(t, s[i:])
			if i < len(s) {
				checked(t, s[:i]+s[i+1:])
			}
		}
	}
}
