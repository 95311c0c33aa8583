package model

import (
	"slices"
	"strconv"
	"testing"

	"folio/api"
)

// draw draws by a rule, so that every run of the tests is alike.
type draw struct{ state uint64 }

func (d *draw) below(n int) int {
	d.state = d.state*6364136223846793005 + 1442695040888963407
	return int((d.state >> 33) % uint64(n))
}

func (d *draw) of(l ...string) string { return l[d.below(len(l))] }

func (d *draw) key() string {
	return d.of("A", "A", "A", "B") + "/" + d.of("a", "b", "c", "d", "e")
}

func (d *draw) typ() string { return d.of("A", "A", "B", "C") }

func (d *draw) temp() string { return d.of("", "", "@x ", "@y ") }

func (d *draw) fields() string {
	return d.of("", " n=1", " n=2", " m=1 n=1", " n=1 n=2", " r=*@x", " n=2 r=*@y r=*@x", " n=1 r=*A/a", " n=3", " r=*@z")
}

func (d *draw) terms() string {
	return d.of("", " n=1", " n=2", " n=3", " n=4", " m?", " n-", " r?", " r=*@x", " m=1 n=1", " n!1", " r=*A/a")
}

func (d *draw) when() string { return d.of("", "", "", " if 1", " if 2", " if 3") }

func (d *draw) edits() string {
	return d.of(" n:=2", " n+=3", " n-=1", " n~", " n==1 n:=2", " r+=*@x", " r:=*@y m:=1", " r-=*@x", " r==*@x", " n:=*@z", " m~ n:=1 r~")
}

func (d *draw) stamp() string {
	return d.of("0", "1", strconv.Itoa(d.below(60)), strconv.Itoa(d.below(60)), strconv.Itoa(d.below(60)), "18446744073709551615", "18446744073709551614")
}

// entry is the words of one, more often of one that writes.
func (d *draw) entry() string {
	switch d.below(16) {
	case 0, 1:
		return "create " + d.temp() + d.key() + d.fields()
	case 2, 3, 4:
		return "ensure " + d.temp() + d.key() + d.fields() + " ?" + d.terms()
	case 5, 6:
		return "update " + d.key() + d.when() + d.fields()
	case 7, 8:
		return "patch " + d.key() + d.when() + d.edits()
	case 9:
		return "delete " + d.key() + d.when()
	}
	return d.looks()
}

// looks is the words of an entry that only reads.
func (d *draw) looks() string {
	switch d.below(7) {
	case 0:
		return "number " + d.key() + " " + strconv.Itoa(d.below(5))
	case 1:
		return "search " + d.typ() + d.terms()
	case 2:
		return "history " + d.key() + " " + d.stamp()
	case 3:
		return "since " + d.typ() + " " + d.stamp()
	case 4:
		return "at " + d.stamp() + " " + d.key()
	case 5:
		return "find " + d.stamp() + " " + d.typ() + d.terms()
	}
	return "read " + d.key()
}

// request is one of up to most entries; seldom it isn't fit.
func (d *draw) request(t *testing.T, most int) api.Request {
	t.Helper()
	r := parsed(t, d.entry())
	for range d.below(most) {
		more := r
		more.Entries = append(slices.Clone(r.Entries), parsed(t, d.entry()).Entries...)
		if plainFit(more) || d.below(50) == 0 {
			r = more
		}
	}
	r.Once = d.below(5) == 0
	return r
}

// put is a stamp for what a request writes, and a tick: most often one that hasn't been, below or above the others, seldom one that can't be.
func (d *draw) put() (uint64, int64) {
	ticks := []int64{0, 1, 2, 7, -1, api.MaxTick, 1<<63 - 1, -1 << 63}
	tick := ticks[d.below(len(ticks))]
	switch d.below(60) {
	case 0:
		return 0, tick
	case 1:
		return api.MaxStamp, tick
	case 2:
		return api.MaxStamp - 1, tick
	}
	return uint64(1 + d.below(60)), tick
}
