package pred

import (
	"math"
	"slices"
	"strings"
	"testing"

	"folio/api"
)

// all are the operators.
var all = []int{api.OpIs, api.OpNot, api.OpBegins, api.OpBelow, api.OpAbove, api.OpHas, api.OpLacks}

// The terms by their operators.
func is(field, text string) api.Term     { return api.Term{Field: field, Op: api.OpIs, Text: text} }
func not(field, text string) api.Term    { return api.Term{Field: field, Op: api.OpNot, Text: text} }
func begins(field, text string) api.Term { return api.Term{Field: field, Op: api.OpBegins, Text: text} }
func below(field, text string) api.Term  { return api.Term{Field: field, Op: api.OpBelow, Text: text} }
func above(field, text string) api.Term  { return api.Term{Field: field, Op: api.OpAbove, Text: text} }
func has(field string) api.Term          { return api.Term{Field: field, Op: api.OpHas} }
func lacks(field string) api.Term        { return api.Term{Field: field, Op: api.OpLacks} }

// terms is a list of terms.
func terms(l ...api.Term) []api.Term { return l }

// other is a term of a field with any operator and text, that may be or not.
func other(field string, op int, text string) api.Term {
	return api.Term{Field: field, Op: op, Text: text}
}

// long is a text of n bytes.
func long(n int) string { return strings.Repeat("t", n) }

// wide is n terms, each unlike the others, rising.
func wide(n int) []api.Term {
	var p []api.Term
	for i := range n {
		p = append(p, is("f"+string(rune('A'+i)), "x"))
	}
	return p
}

// noOps are numbers that are no operators.
func noOps() []int {
	return []int{0, -1, 8, 9, 100, -api.OpIs, -api.OpLacks, 1 << 8, 1<<8 + 1, 1<<16 + 1, 1<<32 + 1, math.MaxInt, math.MinInt}
}

// badNames are texts that are no field's names.
func badNames() []string {
	return []string{"", " ", "A", "Ab", "1", "1a", "a.", "a_", "a b", "a/b", "\u00e4", "a\u00e4", "a\x00", "\xff", strings.Repeat("a", api.MaxName+1)}
}

// normals are predicates that are normal.
func normals() [][]api.Term {
	l := [][]api.Term{
		nil,
		{},
		terms(is("a", "")),
		terms(is("a", "x"), has("b")),
		terms(is("a", "x"), not("a", "x"), begins("a", "x"), below("a", "x"), above("a", "x"), has("a"), lacks("a")),
		// By the field, then by the operator's number, then by the text.
		terms(lacks("a"), has("b"), above("c", "z"), below("d", "y"), begins("e", "x"), not("f", "w"), is("g", "v")),
		terms(is("a", "z"), not("a", "y"), begins("a", "x"), below("a", "w"), above("a", "v")),
		terms(is("a", ""), is("a", "\x00"), is("a", "A"), is("a", "a"), is("a", "aa"), is("a", "b"), is("a", "\x80"), is("a", "\xff")),
		terms(has("a"), is("a0", "x"), is("aA", "x"), is("aa", "x"), is("b", "x")),
		terms(is("a", long(api.MaxText)), not("a", long(api.MaxText)), begins("a", long(api.MaxText)), below("a", long(api.MaxText)), above("a", long(api.MaxText))),
		terms(has(strings.Repeat("a", api.MaxName))),
		terms(is("birthDate", "mrn|7"), is("birthDate", "mrn|7 "), is("birthDate", "mrn||7")),
		wide(api.MaxTerms - 1),
		wide(api.MaxTerms),
	}
	for _, op := range all {
		l = append(l, terms(other("a", op, "")), terms(other("a", op, ""), other("b", op, "")))
	}
	for i := range 256 {
		text := string([]byte{byte(i)})
		l = append(l, terms(is("a", text), begins("b", "x"+text), below("c", text+"x")))
	}
	return l
}

// unlike is a predicate that is not normal, and what Norm makes of it, or the error.
type unlike struct {
	p, want []api.Term
	e       api.Errno
}

func unlikes() []unlike {
	tooLong := long(api.MaxText + 1)
	l := []unlike{
		{terms(has("b"), is("a", "x"), is("a", "x")), terms(is("a", "x"), has("b")), api.OK},
		{terms(is("a", "x"), is("a", "x")), terms(is("a", "x")), api.OK},
		{terms(is("b", ""), is("a", "")), terms(is("a", ""), is("b", "")), api.OK},
		{terms(is("a", "y"), is("a", "x")), terms(is("a", "x"), is("a", "y")), api.OK},
		{terms(not("a", "x"), is("a", "y")), terms(is("a", "y"), not("a", "x")), api.OK},
		{terms(lacks("a"), has("a"), above("a", "1"), below("a", "2"), begins("a", "3"), not("a", "4"), is("a", "5")), terms(is("a", "5"), not("a", "4"), begins("a", "3"), below("a", "2"), above("a", "1"), has("a"), lacks("a")), api.OK},
		{slices.Repeat(terms(has("a")), api.MaxTerms), terms(has("a")), api.OK},
		{slices.Repeat(terms(is("b", "x"), has("a")), api.MaxTerms/2), terms(has("a"), is("b", "x")), api.OK},
		// Too many terms, though they are one.
		{slices.Repeat(terms(has("a")), api.MaxTerms+1), nil, api.ErrLong},
		{wide(api.MaxTerms + 1), nil, api.ErrLong},
		{wide(25), nil, api.ErrLong},
		{slices.Repeat(terms(has("a")), 10000), nil, api.ErrLong},
		// Texts.
		{terms(is("a", tooLong)), nil, api.ErrLong},
		{terms(is("a", "x"), begins("b", tooLong), has("c")), nil, api.ErrLong},
		{terms(above("a", long(1000))), nil, api.ErrLong},
		{terms(has("a"), other("b", api.OpHas, "x")), nil, api.ErrArg},
		{terms(other("a", api.OpHas, "\x00")), nil, api.ErrArg},
		{terms(other("a", api.OpLacks, "x"), has("b")), nil, api.ErrArg},
		{terms(other("a", api.OpLacks, " ")), nil, api.ErrArg},
		// Which error is answered, where more than one would do, wherever they stand: too many terms, a name, an operator, a text.
		{make([]api.Term, api.MaxTerms+1), nil, api.ErrLong},
		{append(wide(api.MaxTerms), is("A", "x")), nil, api.ErrLong},
		{append(wide(api.MaxTerms), other("a", 8, "x")), nil, api.ErrLong},
		{make([]api.Term, api.MaxTerms), nil, api.ErrName},
		{terms(api.Term{}), nil, api.ErrName},
		{terms(other("a", 8, ""), is("A", "x")), nil, api.ErrName},
		{terms(is("A", "x"), other("a", 8, "")), nil, api.ErrName},
		{terms(is("a", tooLong), is("A", "x")), nil, api.ErrName},
		{terms(other("a", api.OpHas, "x"), is("", "x")), nil, api.ErrName},
		{terms(other("A", 8, tooLong)), nil, api.ErrName},
		{terms(is("a", tooLong), other("a", 0, "")), nil, api.ErrArg},
		{terms(other("a", 0, ""), is("a", tooLong)), nil, api.ErrArg},
		{terms(is("a", tooLong), other("a", api.OpHas, "x")), nil, api.ErrArg},
		{terms(other("a", api.OpHas, tooLong)), nil, api.ErrArg},
		{terms(other("a", api.OpLacks, tooLong)), nil, api.ErrArg},
		{terms(other("a", 8, tooLong)), nil, api.ErrArg},
	}
	for _, op := range noOps() {
		l = append(l, unlike{terms(other("a", op, "")), nil, api.ErrArg}, unlike{terms(is("a", "x"), other("b", op, "x"), has("c")), nil, api.ErrArg})
	}
	for _, op := range all[:5] {
		l = append(l, unlike{terms(other("a", op, tooLong)), nil, api.ErrLong})
	}
	for _, s := range badNames() {
		l = append(l, unlike{terms(is(s, "x")), nil, api.ErrName}, unlike{terms(has("a"), lacks(s), has("c")), nil, api.ErrName})
	}
	return l
}

// same is what Equal should say, spelt out.
func same(a, b []api.Term) bool {
	if len(a) != len(b) {
		return false
	}
	for i := range a {
		if a[i].Field != b[i].Field || a[i].Op != b[i].Op || a[i].Text != b[i].Text {
			return false
		}
	}
	return true
}

// ahead says whether a stands ahead of b, spelt out.
func ahead(a, b api.Term) bool {
	if a.Field != b.Field {
		return a.Field < b.Field
	}
	if a.Op != b.Op {
		return a.Op < b.Op
	}
	return a.Text < b.Text
}

func TestMay(t *testing.T) {
	for _, p := range normals() {
		if e := May(p); e != api.OK {
			t.Errorf("May(%#v): %v", p, e)
		}
	}
	for _, x := range unlikes() {
		if e := May(x.p); e != x.e {
			t.Errorf("May(%#v): %v; want %v", x.p, e, x.e)
		}
	}
}

func TestNorm(t *testing.T) {
	for _, x := range unlikes() {
		got, e := Norm(x.p)
		if !same(got, x.want) || e != x.e {
			t.Errorf("Norm(%#v): %#v, %v; want %#v, %v", x.p, got, e, x.want, x.e)
		}
	}
}

// TestNormOfNormal is P4.2: Norm of a normal predicate is itself.
func TestNormOfNormal(t *testing.T) {
	for _, p := range normals() {
		if got, e := Norm(p); !same(got, p) || e != api.OK {
			t.Errorf("Norm(%#v): %#v, %v", p, got, e)
		}
	}
}

// TestNormRises: all lists of up to 5 of some terms are tried; what Norm answers rises, and has just their terms.
func TestNormRises(t *testing.T) {
	some := terms(is("b", "x"), has("a"), is("a", "y"), lacks("b"), is("a", "x"), not("a", "x"))
	lists(some, 5, func(p []api.Term) {
		got, e := Norm(p)
		if e != api.OK {
			t.Fatalf("Norm(%#v): %v", p, e)
		}
		for i, x := range got {
			if i > 0 && !ahead(got[i-1], x) || !slices.Contains(p, x) {
				t.Fatalf("Norm(%#v): %#v", p, got)
			}
		}
		for _, x := range p {
			if !slices.Contains(got, x) {
				t.Fatalf("Norm(%#v): %#v without %#v", p, got, x)
			}
		}
	})
}

// lists calls do with all lists of at most size of some elements.
func lists[T any](some []T, size int, do func(l []T)) {
	var walk func(l []T)
	walk = func(l []T) {
		do(slices.Clone(l))
		if len(l) == size {
			return
		}
		for _, x := range some {
			walk(append(slices.Clone(l), x))
		}
	}
	walk(nil)
}

func TestEqual(t *testing.T) {
	predicates := normals()[1:20]
	for _, x := range unlikes() {
		predicates = append(predicates, x.p)
	}
	predicates = append(predicates,
		terms(is("a", "x"), is("b", "y")), terms(is("a", "y"), is("b", "x")), terms(is("b", "y"), is("a", "x")), terms(is("a", "xb")), terms(is("ax", "")),
		terms(is("a", "x"), is("b", "y"), has("c")), terms(has("c"), has("c")), terms(has("c"), has("c"), has("c")), terms(api.Term{}), terms(api.Term{}, api.Term{}))
	for _, a := range predicates {
		for _, b := range predicates {
			if got := Equal(a, b); got != same(a, b) {
				t.Errorf("Equal(%#v, %#v): %v", a, b, got)
			}
		}
	}
	if !Equal(nil, nil) || !Equal(nil, []api.Term{}) || !Equal([]api.Term{}, nil) {
		t.Error("no terms are unlike no terms")
	}
}
