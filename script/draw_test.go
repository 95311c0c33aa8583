package script

import (
	"fmt"
	"math"
	"slices"
	"strconv"
	"strings"

	"folio/api"
)

// draw draws by a rule, so that every run of the tests is alike.
type draw struct {
	state uint64
	tag   int // how many tags were drawn
}

func (d *draw) below(n int) int {
	d.state = d.state*6364136223846793005 + 1442695040888963407
	return int((d.state >> 33) % uint64(n))
}

func (d *draw) of(l ...string) string { return l[d.below(len(l))] }

func (d *draw) key() string { return d.of("A", "A", "B") + "/" + d.of("a", "b", "c", "d") }

// fields are those of a value, with a text that no other one has.
func (d *draw) fields() string {
	d.tag++
	return d.of("", " n=1", " n=2", " n=1 n=2", " r=*@x", " n=a%20b%3d") + " w=" + strconv.Itoa(d.tag)
}

func (d *draw) terms() string { return d.of("", "", " n=1", " n=2", " n-", " r?", " n=1 n!2") }

func (d *draw) when() string { return d.of("", "", "", " if 1", " if 2") }

func (d *draw) stamp() string { return d.of("0", "1", "3", "6", "9", "20", "18446744073709551615") }

// entry is the words of one.
func (d *draw) entry() string {
	switch d.below(14) {
	case 0:
		return "create " + d.of("", "@x ") + d.key() + d.fields()
	case 1:
		return "ensure " + d.of("", "@x ") + d.key() + d.fields() + " ?" + d.terms()
	case 2, 3, 4:
		return "update " + d.key() + d.when() + d.fields()
	case 5:
		return "patch " + d.key() + d.when() + d.of(" n:=1", " n+=2", " n~", " n==1 n:=3", " r+=*@x")
	case 6:
		return "delete " + d.key() + d.when()
	case 7, 8:
		return "search " + d.of("A", "B") + d.terms()
	case 9:
		return "number " + d.key() + " " + strconv.Itoa(d.below(5))
	case 10:
		return d.of("history "+d.key(), "since "+d.of("A", "B")) + " " + d.stamp()
	case 11:
		return d.of("at "+d.stamp()+" "+d.key(), "find "+d.stamp()+" A"+d.terms())
	}
	return "read " + d.key()
}

// request is the line of one of up to so many entries; now and then it isn't fit.
func (d *draw) request(most int) string {
	l := []string{d.entry()}
	for range d.below(most) {
		l = append(l, d.entry())
	}
	return d.of("", "", "", "", "once ") + strings.Join(l, " ; ")
}

// action is a line that drives a run of so many clients.
func (d *draw) action(clients int) string {
	switch d.below(20) {
	case 0:
		return "vacuum"
	case 1:
		return "tick " + d.of("0", "1", "3", "1099511627776")
	case 2:
		return "pick " + strconv.Itoa(d.below(api.MaxClients))
	}
	line := "pick"
	for range 1 + d.below(12) {
		line += " " + strconv.Itoa(d.below(clients))
	}
	return line
}

// config is a line that names a store with much room or little, up to the last stamps.
func (d *draw) config() string {
	return "config " + d.of("4096 64 8 0", "60 2 3 3", "6 8 2 0", "90 0 8 5", "60 64 1 18446744073709551610", "200 5 2 0", "1 0 1 18446744073709551615")
}

// script is the lines of one of up to so many clients, each with up to so many requests, and up to so many lines of actions.
func (d *draw) script(clients, requests, actions int) []string {
	count := 1 + d.below(clients)
	var l []string
	for n := range count {
		for range d.below(requests + 1) {
			l = append(l, strconv.Itoa(n)+" "+d.request(3))
		}
	}
	for range d.below(actions + 1) {
		l = append(l, d.action(count))
	}
	// Requests and actions stand anywhere among each other.
	for i := range l {
		j := i + d.below(len(l)-i)
		l[i], l[j] = l[j], l[i]
	}
	if d.below(3) > 0 {
		l = slices.Insert(l, 0, d.config())
	}
	return l
}

// silent lays lines that say nothing among others.
func (d *draw) silent(l []string) []string {
	var all []string
	for _, line := range append(slices.Clone(l), "") {
		for d.below(3) == 0 {
			all = append(all, d.of("", "", "#", "# pick 9", "#config 0 0 0 0", "#\x00\xff", "##\r"))
		}
		all = append(all, line)
	}
	return all
}

// hurt is a text with a word, a byte or a line left out, doubled, or another instead.
func (d *draw) hurt(s string) string {
	by := d.of("\n", " ", "")
	l := strings.Split(s, by)
	if len(l) == 0 {
		return s
	}
	i := d.below(len(l))
	other := d.of("", " ", "\n", "#", "0", "7", "8", "00", "-1", "x", "pick", "tick", "vacuum", "config", "config 9 9 9 9", "pick 0", "0 read A/a", "\r", "\x00", "\xff", l[d.below(len(l))])
	switch d.below(3) {
	case 0:
		l = slices.Delete(l, i, i+1)
	case 1:
		l = slices.Insert(l, i, other)
	default:
		l[i] = other
	}
	return strings.Join(l, by)
}

func (d *draw) number() int {
	l := []int{0, 1, 2, 3, 5, 7, 11, 12, 70, -1, -30, math.MaxInt, math.MinInt}
	return l[d.below(len(l))]
}

func (d *draw) big() uint64 {
	return []uint64{0, 0, 1, 2, 9, 10, 1 << 40, 1 << 63, math.MaxUint64}[d.below(9)]
}

func (d *draw) text() string {
	return d.of("", "a", "A", "p1", "x y", "a=b", "%", "\n", "\x00", "\xff", "é", ";", "?", "*A/a", "-._|*@/:+,", fmt.Sprint(d.number()))
}

// found is any key with any version.
func (d *draw) found() api.Found {
	f := api.Found{
		Key:     api.Key{Type: d.text(), ID: d.text()},
		Version: api.Version{Number: d.number(), Stamp: d.big(), Tick: int64(d.number()), Live: d.below(2) == 0},
	}
	for range d.below(4) {
		field := api.Field{Name: d.text()}
		for range d.below(4) {
			field.Texts = append(field.Texts, d.text())
		}
		f.Version.Value = append(f.Version.Value, field)
	}
	return f
}

// event is any: what it tells may be what none is told.
func (d *draw) event() api.Event {
	e := api.Event{
		Kind: d.below(6), Client: d.number(), Number: d.number(), Tick: int64(d.number()), Floor: d.big(), Removed: d.number(),
		Answer: api.Answer{Status: d.below(14) - 1, At: d.number(), Snap: d.big(), Stamp: d.big(), Tick: int64(d.number()), Tries: d.number()},
	}
	for range d.below(3) {
		e.Request.Entries = append(e.Request.Entries, api.Entry{Kind: api.EnRead, Key: api.Key{Type: d.of("A", "A", "A", "a"), ID: "a"}})
	}
	for range d.below(4) {
		r := api.Reply{Kind: d.below(10) - 1}
		for range d.below(4) {
			r.List = append(r.List, d.found())
		}
		e.Answer.Replies = append(e.Answer.Replies, r)
	}
	return e
}
