package pred

import (
	"slices"
	"strconv"
	"testing"

	"folio/api"
)

// barred says whether a and b are such two terms, spelt out.
func barred(a, b api.Term) bool {
	needs := []int{api.OpIs, api.OpBegins, api.OpBelow, api.OpAbove, api.OpHas}
	if a.Field != b.Field {
		return false
	}
	return a.Op == api.OpLacks && slices.Contains(needs, b.Op) || a.Op == api.OpIs && b.Op == api.OpNot && a.Text == b.Text
}

// hopeless is what Never should say, spelt out.
func hopeless(p []api.Term) bool {
	for _, a := range p {
		for _, b := range p {
			if barred(a, b) {
				return true
			}
		}
	}
	return false
}

func TestNeverExamples(t *testing.T) {
	for _, x := range []struct {
		p    []api.Term
		want bool
	}{
		{terms(lacks("a"), has("a")), true},
		{terms(is("a", "x"), not("a", "x")), true},
		{terms(is("a", "x"), not("a", "y")), false},
		{nil, false},
		{terms(), false},
		{terms(lacks("a")), false},
		{terms(lacks("a"), lacks("a")), false},
		{terms(lacks("a"), not("a", "x")), false},
		{terms(lacks("a"), is("a", "")), true},
		{terms(lacks("a"), begins("a", "")), true},
		{terms(lacks("a"), below("a", "")), true},
		{terms(lacks("a"), above("a", "")), true},
		{terms(lacks("a"), has("b"), is("c", "x"), begins("aa", "x"), below("A", "x"), above("", "x")), false},
		{terms(is("a", "x"), not("b", "x")), false},
		{terms(is("a", ""), not("a", "")), true},
		{terms(is("a", "x"), is("a", "y"), is("a", "z"), not("a", "w"), not("a", "v"), not("a", "y")), true},
		{terms(is("a", "x"), is("b", "y"), not("a", "y"), not("b", "x")), false},
		// By the text alone: what the patterns mean is not asked for, nor what can't hold otherwise.
		{terms(is("a", "mrn|7"), not("a", "7")), false},
		{terms(is("a", "x"), not("a", "|x")), false},
		{terms(begins("a", "x"), not("a", "x")), false},
		{terms(below("a", ""), has("a")), false},
		{terms(has("a"), not("a", "")), false},
		// The two terms may stand anywhere.
		{terms(has("b"), has("a"), not("b", "x"), lacks("c"), lacks("a")), true},
		{terms(lacks("b"), not("a", "x"), has("c"), is("a", "x")), true},
		// Any terms: the text of OpHas and OpLacks says nothing, another operator neither.
		{terms(other("a", api.OpLacks, "x"), other("a", api.OpHas, "y")), true},
		{terms(other("a", api.OpLacks, "x"), is("a", "y")), true},
		{terms(other("A b", api.OpLacks, ""), other("A b", api.OpHas, "")), true},
		{terms(lacks(""), has("")), true},
		{terms(is("", ""), not("", "")), true},
		{terms(api.Term{}), false},
		{terms(api.Term{}, api.Term{}, lacks(""), not("", "")), false},
		{terms(is("a", long(1000)), not("a", long(1000))), true},
		{terms(is("a", long(1000)), not("a", long(999))), false},
	} {
		if got := Never(x.p); got != x.want || got != hopeless(x.p) {
			t.Errorf("Never(%#v): %v; want %v", x.p, got, x.want)
		}
	}
	for _, op := range noOps() {
		p := terms(other("a", op, "x"))
		if Never(append(p, lacks("a"))) || Never(append(p, not("a", "x"))) || Never(append(p, is("a", "x"))) || Never(append(p, has("a"))) {
			t.Errorf("the operator %d is told to be hopeless", op)
		}
	}
}

// TestNever is P4.3: of all pairs, and of all lists of up to 3 of some terms, Never says what it should, and Match of one that is Never is false.
func TestNever(t *testing.T) {
	values := fewValues()
	check := func(p []api.Term) {
		if got := Never(p); got != hopeless(p) {
			t.Fatalf("Never(%#v): %v", p, got)
		}
		for _, v := range values {
			if Never(p) && Match(p, v) {
				t.Fatalf("Match(%#v, %#v) of one that is Never", p, v)
			}
		}
	}
	lists(fewTerms(), 2, check)
	lists(terms(is("a", "x"), not("a", "x"), not("a", "y"), lacks("a"), has("b"), lacks("b"), begins("a", "x"), below("b", "x"), above("a", "")), 3, check)
}

// TestNeverOfMany: a long list is gone through in a time that it can be waited for.
func TestNeverOfMany(t *testing.T) {
	var p []api.Term
	for i := range 200000 {
		s := strconv.Itoa(i)
		p = append(p, is("a", s), not("a", "x"+s), lacks("b"+s))
	}
	if Never(p) {
		t.Error("a long list")
	}
	if !Never(append(p, not("a", "7"))) || !Never(append(p, above("b7", ""))) || !Never(append(p, lacks("a"))) {
		t.Error("a long list with one term more")
	}
}
