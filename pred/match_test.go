package pred

import (
	"slices"
	"strings"
	"testing"

	"folio/api"
	"folio/name"
)

// one is a field of a name and its texts.
func one(name string, texts ...string) api.Field { return api.Field{Name: name, Texts: texts} }

// row is a list of fields.
func row(fields ...api.Field) []api.Field { return fields }

// textsOf are the texts of the first field of a name, spelt out.
func textsOf(v []api.Field, field string) []string {
	for i := range v {
		if v[i].Name == field {
			return v[i].Texts
		}
	}
	return nil
}

// met is what a term says, spelt out as the chapter's table has it.
func met(t api.Term, v []api.Field) bool {
	tokens, first, under, over, count := 0, 0, 0, 0, 0
	for _, text := range textsOf(v, t.Field) {
		count++
		if name.Token(t.Text, text) {
			tokens++
		}
		if len(text) >= len(t.Text) && text[:len(t.Text)] == t.Text {
			first++
		}
		if strings.Compare(text, t.Text) < 0 {
			under++
		}
		if strings.Compare(text, t.Text) > 0 {
			over++
		}
	}
	if t.Op < api.OpIs || t.Op > api.OpLacks {
		return false
	}
	return []bool{tokens > 0, tokens == 0, first > 0, under > 0, over > 0, count > 0, count == 0}[t.Op-1]
}

// taken is what Match should say, spelt out.
func taken(p []api.Term, v []api.Field) bool {
	for _, t := range p {
		if !met(t, v) {
			return false
		}
	}
	return true
}

func TestMatchExamples(t *testing.T) {
	v := row(one("a", "x", "mrn|7"), one("b", "1"))
	for _, x := range []struct {
		term api.Term
		want bool
	}{
		{is("a", "x"), true}, {is("a", "7"), true}, {is("a", "mrn|7"), true}, {not("a", "y"), true}, {begins("a", "m"), true},
		{below("b", "2"), true}, {above("a", "w"), true}, {has("b"), true}, {lacks("c"), true}, {not("c", "x"), true},
		{not("a", "7"), false}, {is("c", "x"), false}, {above("b", "1"), false}, {lacks("b"), false},
		// Patterns: the code alone, the system alone, both; the whole text is no code.
		{is("a", "mrn|"), true}, {is("a", "|x"), true}, {is("a", "|"), true}, {is("a", "mrn"), false}, {is("a", "|7"), false}, {is("a", "ssn|7"), false}, {is("a", ""), false}, {is("a", "X"), false},
		{not("a", "mrn|"), false}, {not("a", "|7"), true}, {not("a", "mrn"), true}, {not("a", "x"), false}, {not("a", ""), true}, {not("b", "1"), false}, {not("b", "|1"), false},
		{begins("a", "mrn|7"), true}, {begins("a", "mrn|77"), false}, {begins("a", ""), true}, {begins("a", "7"), false}, {begins("a", "X"), false}, {begins("c", ""), false},
		// Below and above are by bytes, and of the same text neither.
		{below("b", "1"), false}, {below("b", "10"), true}, {below("b", "0"), false}, {below("b", ""), false}, {below("a", "n"), true}, {below("a", "mrn|7"), false}, {below("a", "mrn|70"), true}, {below("c", "x"), false}, {below("c", "\xff"), false},
		{above("b", "0"), true}, {above("b", ""), true}, {above("b", "10"), false}, {above("a", "x"), false}, {above("a", "n"), true}, {above("a", "X"), true}, {above("c", ""), false},
		{has("a"), true}, {has("c"), false}, {has("A"), false}, {lacks("a"), false}, {lacks("A"), true}, {lacks("aa"), true},
	} {
		if got := Match(terms(x.term), v); got != x.want || got != met(x.term, v) {
			t.Errorf("Match(%#v): %v; want %v", x.term, got, x.want)
		}
	}
}

// TestMatchOddLists: predicates and values may be any lists.
func TestMatchOddLists(t *testing.T) {
	odd := row(one("e"), one("e", "x"), one("A", "x"), one("", "y"), one("two", "1"), one("two", "2"), one("n", ""), one("e", "z"), one("l", long(1000)))
	for _, x := range []struct {
		term api.Term
		want bool
	}{
		// By the first field of the name: one without texts is as if it weren't there.
		{has("e"), false}, {lacks("e"), true}, {is("e", "x"), false}, {not("e", "x"), true}, {begins("e", ""), false}, {below("e", "\xff"), false}, {above("e", ""), false},
		{is("two", "1"), true}, {is("two", "2"), false}, {not("two", "2"), true}, {above("two", "1"), false},
		// An empty text is a text.
		{has("n"), true}, {lacks("n"), false}, {is("n", ""), true}, {is("n", "|"), true}, {not("n", ""), false}, {begins("n", ""), true}, {begins("n", "x"), false}, {below("n", "\x00"), true}, {below("n", ""), false}, {above("n", ""), false},
		// Names and texts that may not be.
		{is("A", "x"), true}, {has(""), true}, {is("", "y"), true}, {is("l", long(1000)), true}, {begins("l", long(999)), true}, {begins("l", long(1001)), false}, {not("l", long(1000)), false},
		// The text of OpHas and OpLacks is not asked for.
		{other("two", api.OpHas, "x"), true}, {other("e", api.OpHas, "x"), false}, {other("two", api.OpLacks, "x"), false}, {other("e", api.OpLacks, "x"), true}, {other("n", api.OpHas, ""), true},
	} {
		if got := Match(terms(x.term), odd); got != x.want || got != met(x.term, odd) {
			t.Errorf("Match(%#v): %v; want %v", x.term, got, x.want)
		}
	}
	for _, op := range noOps() {
		for _, field := range []string{"two", "e", "none", ""} {
			if p := terms(other(field, op, "")); Match(p, odd) || Match(p, nil) || Match(append(p, has("two")), odd) || Match(append(terms(has("two")), p...), odd) {
				t.Errorf("the operator %d holds of %#v", op, field)
			}
		}
	}
	for _, v := range [][]api.Field{nil, {}, odd, row(one("a", "x"))} {
		if !Match(nil, v) || !Match([]api.Term{}, v) {
			t.Errorf("no terms don't take %#v", v)
		}
	}
	if Match(terms(has("a")), nil) || !Match(terms(lacks("a")), nil) || !Match(terms(not("a", "x")), []api.Field{}) {
		t.Error("a value without fields")
	}
	// More terms than may be are asked all the same.
	many := slices.Repeat(terms(has("two")), 1000)
	if !Match(many, odd) || Match(append(many, has("e")), odd) {
		t.Error("many terms")
	}
}

// fewTerms are terms of two fields with every operator, and one that is none.
func fewTerms() []api.Term {
	l := terms(other("a", 0, ""), other("a", api.OpHas, "x"), other("a", api.OpLacks, "x"), other("", 8, ""))
	for _, field := range []string{"a", "b"} {
		for _, op := range all {
			l = append(l, other(field, op, ""))
		}
		for _, op := range all[:5] {
			l = append(l, other(field, op, "x"), other(field, op, "s|"), other(field, op, "s|x"))
		}
	}
	return l
}

// fewValues are values with all lists of up to 2 of some texts in a, and some in b.
func fewValues() [][]api.Field {
	var l [][]api.Field
	lists([]string{"", "x", "s|x", "s|y", "t|", "z"}, 2, func(texts []string) {
		l = append(l, row(one("a", texts...)), row(one("b", "s|x"), one("a", texts...)), row(one("a", texts...), one("b", texts...), one("a", "x")))
	})
	return append(l, nil, row(one("b")))
}

// TestMatchMeans is P4.3: Match holds just where all terms do, so that of two lists one behind the other it is both.
func TestMatchMeans(t *testing.T) {
	few := fewTerms()
	for _, v := range fewValues() {
		for _, x := range few {
			if got := Match(terms(x), v); got != met(x, v) {
				t.Fatalf("Match(%#v, %#v): %v", x, v, got)
			}
		}
		for _, x := range few {
			for _, y := range few {
				if got := Match(terms(x, y), v); got != (Match(terms(x), v) && Match(terms(y), v)) {
					t.Fatalf("Match(%#v, %#v, %#v): %v", x, y, v, got)
				}
			}
		}
	}
}

// TestMatchOfParts is P4.3: Match of a predicate cut in two is Match of both, and what is taken is taken with any terms left out.
func TestMatchOfParts(t *testing.T) {
	some := terms(is("a", "x"), not("b", "z"), begins("a", "s"), above("b", "a"), lacks("c"), has("a"), below("a", "t"), has("c"))
	for _, v := range fewValues() {
		for set := range 1 << len(some) {
			var p, rest []api.Term
			for i, x := range some {
				if set>>i&1 == 1 {
					p = append(p, x)
				} else {
					rest = append(rest, x)
				}
			}
			if Match(p, v) != taken(p, v) {
				t.Fatalf("Match(%#v, %#v)", p, v)
			}
			if both := Match(slices.Concat(p, rest), v); both != (Match(p, v) && Match(rest, v)) {
				t.Fatalf("Match(%#v and %#v, %#v): %v", p, rest, v, both)
			}
			for i := range p {
				if less := slices.Delete(slices.Clone(p), i, i+1); Match(p, v) && !Match(less, v) {
					t.Fatalf("Match(%#v, %#v) with a term left out", p, v)
				}
			}
		}
	}
}

// TestMatchOfNorm is P4.3: Match of Norm is Match of the predicate.
func TestMatchOfNorm(t *testing.T) {
	some := terms(has("b"), is("a", "x"), not("a", "x"), begins("a", "s"), above("a", "s|x"), lacks("b"))
	values := fewValues()
	lists(some, 3, func(p []api.Term) {
		normal, e := Norm(p)
		if e != api.OK {
			t.Fatalf("Norm(%#v): %v", p, e)
		}
		for _, v := range values {
			if Match(normal, v) != Match(p, v) || Match(p, v) != taken(p, v) {
				t.Fatalf("Match(%#v, %#v): %v; of Norm %v", p, v, Match(p, v), Match(normal, v))
			}
		}
	})
}
