package bundle

import (
	"slices"
	"testing"

	"folio/api"
	"folio/pred"
)

// Drawn requests are done wholly or not at all, and leave no temporary reference: P17.2 and P17.4.
func TestAllOrNothing(t *testing.T) {
	d := &draw{state: 172}
	for _, lines := range states() {
		p := ready(t, lines)
		for range 4000 {
			r := d.request(t, 8)
			b, e := New(r)
			if e != api.OK {
				continue
			}
			x := p.a.Begin()
			for !b.Step(x) {
			}
			allOrNothing(t, r, b, x)
			x.Give()
		}
	}
}

// Behind ensures of one type with one predicate that takes their values there is one that it takes: P17.3.
func TestOneOfAKind(t *testing.T) {
	d := &draw{state: 173}
	values := []string{"", " n=1", " n=2", " n=1 n=2", " m=1", " m=1 n=1", " r=*A/a"}
	terms := []string{"", "n=1", "n=2", "n?", "n!2", "m=1", "m- n=1", "r-", "m!1", "n>1", "n^1"}
	done := 0
	for range 20000 {
		p := ready(t, states()[d.below(len(states()))])
		kind, e := pred.Parse(d.of(terms...))
		if e != api.OK {
			t.Fatal(e)
		}
		r := api.Request{Entries: []api.Entry{{Kind: api.EnSearch, Key: key("A", ""), Pred: kind}}}
		for range 1 + d.below(6) {
			e := parsed(t, "ensure A/"+d.of("a", "b", "c", "d", "e", "f")+d.of(values...)+" ?").Entries[0]
			e.Pred = kind
			more := api.Request{Entries: append(slices.Clone(r.Entries), e)}
			if pred.Match(kind, e.Value) && Fit(more) == api.OK {
				r = more
			}
		}
		x := p.a.Begin()
		if a := Do(x, r); a.Status != api.Success || len(r.Entries) == 1 {
			continue
		}
		done++
		if l, e := x.Scan("A", kind); len(l) != 1 || e != api.OK {
			t.Fatalf("%+v: %v, %v", r, l, e)
		}
	}
	if done < 5000 {
		t.Error(done)
	}
}

// The two laws above for a request of a few lines, by hand: P17.3 and P17.4.
func TestKinds(t *testing.T) {
	s := made(t)
	a := commit(t, s, "ensure A/a n=1 ? n=1 ; ensure A/b m=2 n=1 ? n=1 ; ensure A/c n=1 ? n=1 ; search A n=1")
	succeeds(t, a, 0, "made A/a 1.0.0 (n=1)", "found A/a 1.0.0 (n=1)", "found A/a 1.0.0 (n=1)", "list A/a 1.0.0 (n=1)")
	a = commit(t, s, "ensure A/b n=1 ? n=1 ; ensure A/c n=1 ? n=1 ; search A n=1")
	succeeds(t, a, 1, "found A/a 1.1.0 (n=1)", "found A/a 1.1.0 (n=1)", "list A/a 1.1.0 (n=1)")
}
