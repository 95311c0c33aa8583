package script

import (
	"fmt"
	"math/big"
	"regexp"
	"strings"
	"testing"

	"folio/api"
	"folio/op"
)

// spelt is anything in words; lists that are nil and empty ones are spelt alike.
func spelt(x any) string { return fmt.Sprintf("%+v", x) }

// digits is how a number is written.
const digits = `(0|[1-9][0-9]*)`

// The lines that there are.
var (
	silentForm  = regexp.MustCompile(`\A(#(?s:.*))?\z`)
	configForm  = regexp.MustCompile(`\Aconfig ` + digits + ` ` + digits + ` ` + digits + ` ` + digits + `\z`)
	requestForm = regexp.MustCompile(`\A([0-7]) ((?s:.*))\z`)
	pickForm    = regexp.MustCompile(`\Apick((?: [0-7])+)\z`)
	tickForm    = regexp.MustCompile(`\Atick ` + digits + `\z`)
	vacuumForm  = regexp.MustCompile(`\Avacuum\z`)
)

// between is the number that is written so, if it is in its range.
func between(word, least, most string) (uint64, bool) {
	var n, low, high big.Int
	n.SetString(word, 10)
	low.SetString(least, 10)
	high.SetString(most, 10)
	if n.Cmp(&low) < 0 || n.Cmp(&high) > 0 {
		return 0, false
	}
	return n.Uint64(), true
}

// speltParse is what Parse should answer, spelt out.
func speltParse(s string) (api.Play, int, api.Errno) {
	if len(s) > 65536 {
		return api.Play{}, 0, api.ErrLong
	}
	p := api.Play{Config: api.Config{Versions: 4096, Tracked: 64, Tries: 8}}
	first := true
	for i, line := range strings.Split(s, "\n") {
		if silentForm.MatchString(line) {
			continue
		}
		if !speltLine(&p, line, first) || len(p.Actions) > 4096 {
			return api.Play{}, i + 1, api.ErrLine
		}
		first = false
	}
	return p, 0, api.OK
}

// speltLine puts what a line says into a play, if it is one.
func speltLine(p *api.Play, line string, first bool) bool {
	act := func(kind int, n uint64) { p.Actions = append(p.Actions, api.Action{Kind: kind, N: int64(n)}) }
	if m := configForm.FindStringSubmatch(line); m != nil {
		versions, a := between(m[1], "1", "4096")
		tracked, b := between(m[2], "0", "64")
		tries, c := between(m[3], "1", "8")
		stamp, d := between(m[4], "0", "18446744073709551615")
		p.Config = api.Config{Versions: int(versions), Tracked: int(tracked), Tries: int(tries), First: stamp}
		return first && a && b && c && d
	}
	if m := requestForm.FindStringSubmatch(line); m != nil {
		r, e := op.Parse(m[2])
		n := int(m[1][0] - '0')
		for len(p.Clients) <= n {
			p.Clients = append(p.Clients, nil)
		}
		p.Clients[n] = append(p.Clients[n], r)
		return e == api.OK && len(p.Clients[n]) <= 64
	}
	if m := pickForm.FindStringSubmatch(line); m != nil {
		for _, word := range strings.Fields(m[1]) {
			act(1, uint64(word[0]-'0'))
		}
		return true
	}
	if m := tickForm.FindStringSubmatch(line); m != nil {
		n, ok := between(m[1], "0", "1099511627776")
		act(2, n)
		return ok
	}
	act(3, 0)
	return vacuumForm.MatchString(line)
}

// speltPrint is the script of a play, spelt out.
func speltPrint(p api.Play) string {
	var w strings.Builder
	fmt.Fprintf(&w, "config %d %d %d %d\n", p.Config.Versions, p.Config.Tracked, p.Config.Tries, p.Config.First)
	for n, requests := range p.Clients {
		for _, r := range requests {
			words, _ := op.Print(r)
			fmt.Fprintf(&w, "%d %s\n", n, words)
		}
	}
	for _, a := range p.Actions {
		switch a.Kind {
		case 1:
			fmt.Fprintf(&w, "pick %d\n", a.N)
		case 2:
			fmt.Fprintf(&w, "tick %d\n", a.N)
		case 3:
			fmt.Fprintf(&w, "vacuum\n")
		}
	}
	return w.String()
}

// asTheyAre are the bytes that stand as they are in a written text.
const asTheyAre = "ABCDEFGHIJKLMNOPQRSTUVWXYZabcdefghijklmnopqrstuvwxyz0123456789-._|*@/:+,"

// speltText is a text as it is written.
func speltText(text string) string {
	written := ""
	for _, b := range []byte(text) {
		if strings.IndexByte(asTheyAre, b) >= 0 {
			written += string([]byte{b})
		} else {
			written += fmt.Sprintf("%%%02x", b)
		}
	}
	return written
}

// called is the word of a number, which counts them from 0.
func called(n int, words string) string {
	if l := strings.Fields(words); n > 0 && n < len(l) {
		return l[n]
	}
	return "?"
}

func speltStatus(n int) string {
	return called(n, "none success exists mismatch absent several unfit conflict tired full past malformed")
}

// speltTell is what is told of events, spelt out.
func speltTell(l []api.Event) string {
	var w strings.Builder
	for _, e := range l {
		switch e.Kind {
		case 1:
			words, no := op.Print(e.Request)
			if no != api.OK {
				words = "?"
			}
			fmt.Fprintf(&w, "ask %d %d %s\n", e.Client, e.Number, words)
		case 2:
			fmt.Fprintf(&w, "answer %d %d %s\n", e.Client, e.Number, speltAnswer(e.Answer))
		case 3:
			fmt.Fprintf(&w, "tick %d\n", e.Tick)
		case 4:
			fmt.Fprintf(&w, "vacuum %d %d\n", e.Floor, e.Removed)
		default:
			fmt.Fprintf(&w, "?\n")
		}
	}
	return w.String()
}

func speltAnswer(a api.Answer) string {
	words := speltStatus(a.Status)
	switch a.Status {
	case 2, 3, 4, 5, 6, 10:
		words += fmt.Sprintf(" at %d", a.At)
	}
	if a.Status != 11 {
		words += fmt.Sprintf(" snap %d tries %d", a.Snap, a.Tries)
	}
	if a.Stamp != 0 {
		words += fmt.Sprintf(" stamp %d tick %d", a.Stamp, a.Tick)
	}
	for _, r := range a.Replies {
		words += "\n" + speltReply(r)
	}
	return words
}

func speltReply(r api.Reply) string {
	words := "> " + called(r.Kind, "none found made put dropped missing deleted list")
	for _, f := range r.List {
		words += " ; " + speltFind(f)
	}
	return words
}

func speltFind(f api.Found) string {
	life := map[bool]string{true: "live", false: "dead"}[f.Version.Live]
	words := fmt.Sprintf("%s/%s %d %d %d %s", speltText(f.Key.Type), speltText(f.Key.ID), f.Version.Number, f.Version.Stamp, f.Version.Tick, life)
	for _, field := range f.Version.Value {
		for _, text := range field.Texts {
			words += " " + speltText(field.Name) + "=" + speltText(text)
		}
	}
	return words
}

// parsed is the play of a script.
func parsed(t *testing.T, s string) api.Play {
	t.Helper()
	p, line, e := Parse(s)
	if line != 0 || e != api.OK {
		t.Fatalf("%q: %d, %v", s, line, e)
	}
	return p
}

// printed is the script of a play.
func printed(t *testing.T, p api.Play) string {
	t.Helper()
	s, e := Print(p)
	if e != api.OK {
		t.Fatalf("%+v: %v", p, e)
	}
	return s
}

// asked is the request of a line.
func asked(t *testing.T, line string) api.Request {
	t.Helper()
	r, e := op.Parse(line)
	if e != api.OK {
		t.Fatalf("%q: %v", line, e)
	}
	return r
}
