package op

import (
	"slices"
	"strings"
	"testing"

	"folio/api"
)

// choice is what a field of an entry is made, whether that is zero, and whether it may be where the field is named; a type stands for a key then.
type choice struct {
	zero, fine bool
	put        func(e *api.Entry)
}

func temps() []choice {
	var l []choice
	for _, x := range []struct {
		s          string
		zero, fine bool
	}{{"", true, true}, {"x", false, true}, {"@x", false, false}, {strings.Repeat("x", api.MaxName+1), false, false}} {
		l = append(l, choice{x.zero, x.fine, func(e *api.Entry) { e.Temp = x.s }})
	}
	return l
}

// keys are those of which the first may stand for KEY, the second for TYPE.
func keys() []api.Key {
	return []api.Key{at("A", "a"), at("Patient", ""), {}, at("", "a"), at("a", "a"), at("a", ""), at("A", "a b"), at("A1", ""), at("A/a", "")}
}

func numbers(put func(e *api.Entry, n int)) []choice {
	var l []choice
	for _, x := range []struct {
		n          int
		zero, fine bool
	}{{0, true, true}, {1, false, true}, {999999999, false, true}, {1000000000, false, false}, {-1, false, false}} {
		l = append(l, choice{x.zero, x.fine, func(e *api.Entry) { put(e, x.n) }})
	}
	return l
}

func values() []choice {
	var l []choice
	wide, _ := wideValue(api.MaxFields + 1)
	for _, x := range []struct {
		v          []api.Field
		zero, fine bool
	}{
		{nil, true, true},
		{row(one("a", "1"), one("b", "2", "2")), false, true},
		{row(one("b", "1"), one("a", "2")), false, false},
		{row(one("a")), false, false},
		{wide, false, false},
	} {
		l = append(l, choice{x.zero, x.fine, func(e *api.Entry) { e.Value = x.v }})
	}
	return l
}

func edited() []choice {
	var l []choice
	many, _ := manyEdits(api.MaxEdits + 1)
	for _, x := range []struct {
		l          []api.Edit
		zero, fine bool
	}{
		{nil, true, false},
		{todo(edit(api.EdSet, "a", "1")), false, true},
		{todo(edit(api.EdWipe, "a", "1")), false, false},
		{many, false, false},
	} {
		l = append(l, choice{x.zero, x.fine, func(e *api.Entry) { e.Edits = x.l }})
	}
	return l
}

func asked() []choice {
	var l []choice
	many, _ := manyTerms(api.MaxTerms + 1)
	a, b := term("a", api.OpIs, "1"), term("b", api.OpHas, "")
	for _, x := range []struct {
		p          []api.Term
		zero, fine bool
	}{
		{nil, true, true},
		{all(a, b), false, true},
		{all(b, a), false, false},
		{all(a, a), false, false},
		{all(term("A", api.OpHas, "")), false, false},
		{many, false, false},
	} {
		l = append(l, choice{x.zero, x.fine, func(e *api.Entry) { e.Pred = x.p }})
	}
	return l
}

func stamps() []choice {
	return []choice{{true, true, func(e *api.Entry) { e.Stamp = 0 }}, {false, true, func(e *api.Entry) { e.Stamp = api.MaxStamp }}}
}

// named says which fields the words of a kind name, by the letters Temp, Key (K) or type alone (Y), If, Value, Edits, Pred, Stamp, Number.
func named(kind int) string {
	return map[int]string{
		api.EnCreate: "TKV", api.EnEnsure: "TKVP", api.EnUpdate: "KIV", api.EnPatch: "KIE", api.EnDelete: "KI", api.EnRead: "K",
		api.EnNumber: "KN", api.EnSearch: "YP", api.EnHistory: "KS", api.EnSince: "YS", api.EnAt: "SK", api.EnFind: "SYP",
	}[kind]
}

// TestMay is P16.1 of May: all kinds, some that are none, with all mixes of fields that are zero, as they must be, and not.
func TestMay(t *testing.T) {
	rest := []struct {
		letter string
		l      []choice
	}{
		{"T", temps()},
		{"I", numbers(func(e *api.Entry, n int) { e.If = n })},
		{"V", values()},
		{"E", edited()},
		{"P", asked()},
		{"S", stamps()},
		{"N", numbers(func(e *api.Entry, n int) { e.Number = n })},
	}
	for _, kind := range []int{-1, 0, 1, 2, 3, 4, 5, 6, 7, 8, 9, 10, 11, 12, 13, 256 + api.EnRead, 1<<32 + api.EnRead} {
		letters := named(kind)
		for i, k := range keys() {
			e := api.Entry{Kind: kind, Key: k}
			want := strings.Contains(letters, "K") && i == 0 || strings.Contains(letters, "Y") && i == 1
			var fill func(at int, want bool)
			fill = func(at int, want bool) {
				if at == len(rest) {
					single(t, e, want)
					return
				}
				for _, c := range rest[at].l {
					c.put(&e)
					ok := c.zero
					if strings.Contains(letters, rest[at].letter) {
						ok = c.fine
					}
					fill(at+1, want && ok)
				}
			}
			fill(0, want)
		}
	}
}

// single fails unless a request of one entry may be as is wanted, and Print tells the same.
func single(t *testing.T, e api.Entry, want bool) {
	t.Helper()
	r := request(e)
	if May(r) != want {
		t.Fatalf("May(%+v): %v", r, !want)
	}
	s, no := Print(r)
	if want != (no == api.OK) || want != (s != "") || !want && no != api.ErrForm {
		t.Fatalf("Print(%+v): %q, %v", r, s, no)
	}
	if !want {
		return
	}
	if back, no := Parse(s); no != api.OK || !alike(back, r) {
		t.Fatalf("Parse(%q): %+v, %v; want %+v", s, back, no, r)
	}
}

// TestMayOfRequests is P16.1 of May and Print: how many entries there are, and one that may not be in each place.
func TestMayOfRequests(t *testing.T) {
	fine := api.Entry{Kind: api.EnRead, Key: at("A", "a")}
	wrong := api.Entry{Kind: api.EnRead, Key: at("A", "a"), Number: 1}
	for n := range api.MaxEntries + 5 {
		for _, once := range []bool{false, true} {
			r := api.Request{Once: once, Entries: slices.Repeat([]api.Entry{fine}, n)}
			judged(t, r, 1 <= n && n <= api.MaxEntries)
			for i := range n {
				other := api.Request{Once: once, Entries: slices.Clone(r.Entries)}
				other.Entries[i] = wrong
				judged(t, other, false)
			}
		}
	}
	for _, x := range examples() {
		judged(t, x.r, true)
	}
}

func judged(t *testing.T, r api.Request, want bool) {
	t.Helper()
	s, e := Print(r)
	if May(r) != want || want != (e == api.OK) || !want && (s != "" || e != api.ErrForm) {
		t.Errorf("of %+v: May %v, Print %q, %v", r, May(r), s, e)
	}
}
