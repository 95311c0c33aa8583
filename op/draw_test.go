package op

import (
	"slices"
	"strconv"
	"strings"

	"folio/api"
)

// draw draws by a rule, so that every run is alike.
type draw struct{ state uint64 }

func drawer(seed uint64) *draw { return &draw{seed} }

// n is a number from 0 on, below the one given.
func (d *draw) n(below int) int {
	d.state = d.state*6364136223846793005 + 1442695040888963407
	return int(d.state>>33) % below
}

func (d *draw) of(l ...string) string { return l[d.n(len(l))] }

// some are up to most of the words, each drawn; often few, seldom more than may be.
func (d *draw) some(most int, word func() string) []string {
	n := d.n(4)
	if d.n(10) == 0 {
		n = d.n(most)
	}
	var l []string
	for range n {
		l = append(l, word())
	}
	return l
}

func (d *draw) name() string {
	return d.of("a", "b", "aB", "a1", "if", "at", "a", "b", "c"+strconv.Itoa(d.n(30)), strings.Repeat("z", api.MaxName))
}

func (d *draw) text() string {
	return d.of("", "", "1", "x", "2", "-", "%20", "%3d%3f", "a%3bb", "mrn|7", "*@x", "*A/a", "2020-01-01", "%c3%a9", "%00", strings.Repeat("%ff", api.MaxText-d.n(2)))
}

func (d *draw) fields() []string {
	return d.some(20, func() string { return d.name() + "=" + d.text() })
}

func (d *draw) terms() []string {
	return d.some(10, func() string {
		if d.n(4) == 0 {
			return d.name() + d.of("?", "-")
		}
		return d.name() + d.of("=", "!", "^", "<", ">") + d.text()
	})
}

func (d *draw) edits() []string {
	return d.some(18, func() string {
		if d.n(5) == 0 {
			return d.name() + "~"
		}
		return d.name() + d.of(":=", "+=", "-=", "==") + d.text()
	})
}

func (d *draw) kind() string { return d.of("A", "Patient", "aB", "Bb")[:1] + d.of("", "", "b", "bC") }

func (d *draw) key() string { return "A" + d.of("", "b") + "/" + d.of("a", "p1", "-.9", "A") }

func (d *draw) number() string {
	return d.of("0", "1", "2", "10", "999999999", "1000000000", "01", strconv.Itoa(d.n(1000)))
}

func (d *draw) stamp() string {
	return d.of("0", "1", "7", "18446744073709551615", "18446744073709551616", "9223372036854775808", strconv.Itoa(d.n(1000)))
}

func (d *draw) temp() []string {
	if d.n(2) == 0 {
		return nil
	}
	return []string{"@" + d.of("x", "y", "1", "Xy", "0")}
}

func (d *draw) when() []string {
	if d.n(2) == 0 {
		return nil
	}
	return []string{"if", d.number()}
}

// entry is the words of one of some kind.
func (d *draw) entry() string {
	var l []string
	kind := d.of("create", "ensure", "update", "patch", "delete", "read", "number", "search", "history", "since", "at", "find")
	switch kind {
	case "create":
		l = slices.Concat(d.temp(), []string{d.key()}, d.fields())
	case "ensure":
		l = slices.Concat(d.temp(), []string{d.key()}, d.fields(), []string{"?"}, d.terms())
	case "update":
		l = slices.Concat([]string{d.key()}, d.when(), d.fields())
	case "patch":
		l = slices.Concat([]string{d.key()}, d.when(), d.edits())
	case "delete":
		l = slices.Concat([]string{d.key()}, d.when())
	case "read":
		l = []string{d.key()}
	case "number":
		l = []string{d.key(), d.number()}
	case "search":
		l = slices.Concat([]string{d.kind()}, d.terms())
	case "history":
		l = []string{d.key(), d.stamp()}
	case "since":
		l = []string{d.kind(), d.stamp()}
	case "at":
		l = []string{d.stamp(), d.key()}
	case "find":
		l = slices.Concat([]string{d.stamp(), d.kind()}, d.terms())
	}
	return strings.Join(slices.Insert(l, 0, kind), " ")
}

// line is that of a few entries, or of about as many as may be, of those that are short.
func (d *draw) line() string {
	n, one := 1+d.n(3), d.entry
	if d.n(12) == 0 {
		n, one = api.MaxEntries-1+d.n(3), func() string { return d.of("read A/a", "delete A/b if 1", "search A", "at 1 A/c") }
	}
	var l []string
	for range n {
		l = append(l, one())
	}
	return d.of("", "once ") + strings.Join(l, " ; ")
}

// hurt is a line with a word or a byte left out, doubled, or another instead.
func (d *draw) hurt(s string) string {
	if d.n(2) == 0 {
		words := strings.Split(s, " ")
		i := d.n(len(words))
		other := d.of("", "?", ";", "if", "@x", "1", "a=1", "a?", "a~", "A/a", "A", "once", "read", words[d.n(len(words))])
		switch d.n(3) {
		case 0:
			words = slices.Delete(words, i, i+1)
		case 1:
			words = slices.Insert(words, i, other)
		case 2:
			words[i] = other
		}
		return strings.Join(words, " ")
	}
	i := d.n(len(s))
	b := d.of(" ", ";", "?", "@", "/", "=", "%", "a", "A", "0", "~", "\n", "\x00", "\xff")
	switch d.n(3) {
	case 0:
		return s[:i] + s[i+1:]
	case 1:
		return s[:i] + b + s[i:]
	}
	return s[:i] + b + s[i+1:]
}

// alter gives one of an entry's fields another content; often the entry may not be then.
func (d *draw) alter(e *api.Entry) {
	switch d.n(16) {
	case 0:
		e.Kind = d.n(15)
	case 1:
		e.Temp = d.of("", "x", "-")
	case 2:
		e.Key.ID = d.of("", "z", "/")
	case 3:
		e.Key.Type = d.of("", "Z", "z")
	case 4:
		e.If = d.n(3)
	case 5:
		e.Value = row(one(d.of("a", "A"), d.of("", " ; ")))
	case 6:
		e.Edits = todo(edit(d.n(7), "a", d.of("", "?")))
	case 7:
		e.Pred = all(term("a", d.n(9), d.of("", "if 1")))
	case 8:
		e.Stamp = uint64(d.n(3))
	case 9:
		e.Number = d.n(3)
	}
}
