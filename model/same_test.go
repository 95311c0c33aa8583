package model

import (
	"slices"
	"testing"

	"folio/api"
	"folio/op"
)

// What fails, what is refused and what only reads changes nothing: a model that is spared all that tells the same: P21.3.
func TestNothingChanges(t *testing.T) {
	d := &draw{state: 216}
	spared := 0
	for range 300 {
		m, other := New(), New()
		for range 50 {
			r := d.request(t, 5)
			stamp, tick := d.put()
			was := dump(m)
			a, e := m.Do(r, stamp, tick)
			if e == api.OK && a.Stamp != 0 {
				if b, e := other.Do(r, stamp, tick); e != api.OK || !sameAnswer(a, b) {
					t.Fatal(a, b)
				}
			} else if spared++; dump(m) != was {
				line, _ := op.Print(r)
				t.Fatalf("%s at %d has changed something", line, stamp)
			}
			if dump(m) != dump(other) {
				t.Fatal(dump(m), dump(other))
			}
		}
	}
	if spared < 5000 {
		t.Error(spared)
	}
}

// Requests that only read may be done with any stamp, as often as one likes: P21.3.
func TestOnlyReads(t *testing.T) {
	d := &draw{state: 217}
	m := world(t)
	was := dump(m)
	for range 2000 {
		r := parsed(t, d.looks()+" ; "+d.looks()+" ; "+d.of("read A/a", "ensure A/z n=1 ? m=x", "ensure @x B/z ?"))
		if !plainFit(r) {
			continue
		}
		want, _ := m.Do(r, 0, 0)
		for _, stamp := range []uint64{1, 40, api.MaxStamp} {
			if a, e := m.Do(r, stamp, 8); e != api.OK || a.Status != api.Success || !sameAnswer(a, want) {
				t.Fatal(a, e)
			}
		}
	}
	if dump(m) != was {
		t.Error(dump(m))
	}
}

// Once is no matter here: P21.1.
func TestOnce(t *testing.T) {
	for _, line := range []string{"create A/d ; read A/d", "create A/a", "read A/a", "update A/a n=2 ; delete A/a"} {
		r := parsed(t, line)
		want, _ := world(t).Do(r, 60, 3)
		r.Once = true
		if got, e := world(t).Do(r, 60, 3); e != api.OK || !sameAnswer(got, want) {
			t.Error(got, want)
		}
	}
}

// Two models have nothing in common, and what is told hangs on what was handed in alone: R2 and P21.1.
func TestAgain(t *testing.T) {
	d := &draw{state: 218}
	type asked struct {
		r     api.Request
		stamp uint64
		tick  int64
	}
	var l []asked
	for range 80 {
		stamp, tick := d.put()
		l = append(l, asked{d.request(t, 8), stamp, tick})
	}
	models := []*Model{New(), New(), New()}
	var first []api.Answer
	for i, m := range models {
		var answers []api.Answer
		for _, a := range l {
			got, _ := m.Do(a.r, a.stamp, a.tick)
			answers = append(answers, got)
		}
		if i == 0 {
			first = answers
		}
		if !slices.EqualFunc(answers, first, sameAnswer) || dump(m) != dump(models[0]) {
			t.Fatal(i)
		}
	}
	if dump(New()) != "0\nlist\nlist\nlist\nlist" {
		t.Error(dump(New()))
	}
}
