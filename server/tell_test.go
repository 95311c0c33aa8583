package server

import (
	"fmt"
	"strconv"
	"strings"
	"testing"

	"folio/api"
	"folio/op"
	"folio/store"
	"folio/value"
)

// parsed is the request of a line.
func parsed(t *testing.T, line string) api.Request {
	t.Helper()
	r, e := op.Parse(line)
	if e != api.OK {
		t.Fatalf("%q: %v", line, e)
	}
	return r
}

func pick(n int64) api.Action { return api.Action{Kind: api.AcPick, N: n} }

func tick(n int64) api.Action { return api.Action{Kind: api.AcTick, N: n} }

func vacuum() api.Action { return api.Action{Kind: api.AcVacuum} }

// roomyConfig is what a script has that names none.
func roomyConfig() api.Config { return api.Config{Versions: 4096, Tracked: 64, Tries: 8} }

// scripted is the play of a script, in the words of chapter 20.
func scripted(t *testing.T, script string) api.Play {
	t.Helper()
	p := api.Play{Config: roomyConfig()}
	for line := range strings.Lines(script) {
		line = strings.TrimSuffix(line, "\n")
		word, rest, _ := strings.Cut(line, " ")
		switch word {
		case "":
		case "config":
			c := &p.Config
			if _, e := fmt.Sscan(rest, &c.Versions, &c.Tracked, &c.Tries, &c.First); e != nil {
				t.Fatal(line, e)
			}
		case "vacuum":
			p.Actions = append(p.Actions, vacuum())
		case "tick", "pick":
			for _, digits := range strings.Fields(rest) {
				n, e := strconv.ParseInt(digits, 10, 64)
				if e != nil {
					t.Fatal(line, e)
				}
				p.Actions = append(p.Actions, map[string]func(int64) api.Action{"tick": tick, "pick": pick}[word](n))
			}
		default:
			n, e := strconv.Atoi(word)
			if e != nil {
				t.Fatal(line, e)
			}
			for len(p.Clients) <= n {
				p.Clients = append(p.Clients, nil)
			}
			p.Clients[n] = append(p.Clients[n], parsed(t, rest))
		}
	}
	return p
}

func statuses() []string {
	return strings.Fields("zero success exists mismatch absent several unfit conflict tired full past malformed")
}

func kinds() []string {
	return strings.Fields("nothing found made put dropped missing deleted list")
}

// tell is what is told of events, in the words of chapter 20.
func tell(l []api.Event) string {
	var words strings.Builder
	for _, e := range l {
		switch e.Kind {
		case api.EvAsk:
			line, no := op.Print(e.Request)
			if no != api.OK {
				line = "?"
			}
			fmt.Fprintf(&words, "ask %d %d %s\n", e.Client, e.Number, line)
		case api.EvAnswer:
			fmt.Fprintf(&words, "answer %d %d %s\n", e.Client, e.Number, tellAnswer(e.Answer))
		case api.EvTick:
			fmt.Fprintf(&words, "tick %d\n", e.Tick)
		case api.EvVacuum:
			fmt.Fprintf(&words, "vacuum %d %d\n", e.Floor, e.Removed)
		default:
			fmt.Fprintf(&words, "?\n")
		}
	}
	return words.String()
}

func tellAnswer(a api.Answer) string {
	words := statuses()[a.Status]
	if a.Status >= api.Exists && a.Status <= api.Unfit || a.Status == api.Past {
		words += fmt.Sprintf(" at %d", a.At)
	}
	if a.Status != api.Malformed {
		words += fmt.Sprintf(" snap %d tries %d", a.Snap, a.Tries)
	}
	if a.Stamp != 0 {
		words += fmt.Sprintf(" stamp %d tick %d", a.Stamp, a.Tick)
	}
	for _, r := range a.Replies {
		words += "\n> " + kinds()[r.Kind]
		for _, f := range r.List {
			words += " ; " + tellFind(f)
		}
	}
	return words
}

func tellFind(f api.Found) string {
	v := f.Version
	words := fmt.Sprintf("%s/%s %d %d %d dead", f.Key.Type, f.Key.ID, v.Number, v.Stamp, v.Tick)
	if v.Live {
		words = strings.TrimSuffix(words, "dead") + "live"
	}
	for _, field := range v.Value {
		for _, text := range field.Texts {
			words += " " + field.Name + "=" + value.Write(text)
		}
	}
	return words
}

// spelt is all that stands in events, every field of them; lists that are nil and empty ones are spelt alike.
func spelt(l []api.Event) string {
	var words strings.Builder
	for _, e := range l {
		fmt.Fprintf(&words, "%+v\n", e)
	}
	return words.String()
}

// state is what a store tells of itself.
type state struct {
	last, floor          uint64
	count, open, tracked int
	tick                 int64
}

func stateOf(s *store.Store) state {
	return state{s.Last(), s.Floor(), s.Count(), s.Open(), s.Tracked(), s.Tick(0)}
}

// made is a server of a play; it is closed when the test ends.
func made(t *testing.T, p api.Play) *Server {
	t.Helper()
	s, e := New(p.Config, p.Clients)
	if s == nil || e != api.OK {
		t.Fatal(s, e)
	}
	t.Cleanup(s.Close)
	return s
}

// ran are the events of a play.
func ran(t *testing.T, p api.Play) []api.Event {
	t.Helper()
	l, e := Run(p)
	if e != api.OK {
		t.Fatal(e)
	}
	return l
}

// tells fails unless events are told so.
func tells(t *testing.T, l []api.Event, want string) {
	t.Helper()
	if got := tell(l); got != want {
		t.Errorf("%s, not\n%s", got, want)
	}
}

// picks are the events of so many picks.
func picks(s *Server, clients ...int64) []api.Event {
	var l []api.Event
	for _, n := range clients {
		l = append(l, s.Do(pick(n))...)
	}
	return l
}
