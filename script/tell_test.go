package script

import (
	"math"
	"strings"
	"testing"

	"folio/api"
)

// tells fails unless just this is told of events.
func tells(t *testing.T, want string, l ...api.Event) {
	t.Helper()
	if got := Tell(l); got != want || got != speltTell(l) {
		t.Errorf("Tell(%+v): %q; want %q", l, got, want)
	}
}

// TestTellKinds is P20.1: a line of each kind of event, with just what its kind names.
func TestTellKinds(t *testing.T) {
	tells(t, "")
	r := asked(t, "once create @x A/a n=%20 b= ; search A n? a!1 ; patch A/b if 3 n~")
	// All that any kind names; what a kind doesn't name isn't told.
	full := api.Event{
		Client: 3, Number: 63, Request: r, Tick: 1 << 40, Floor: math.MaxUint64, Removed: 4096,
		Answer: api.Answer{Status: api.Exists, At: 15, Snap: 8, Stamp: 9, Tick: 4, Tries: 2, Replies: []api.Reply{{Kind: api.RepMissing}}},
		Marks:  api.Marks{Keys: []api.Key{{Type: "A", ID: "a"}}},
	}
	for kind, want := range map[int]string{
		api.EvAsk:    "ask 3 63 once create @x A/a b= n=%20 ; search A a!1 n? ; patch A/b if 3 n~\n",
		api.EvAnswer: "answer 3 63 exists at 15 snap 8 tries 2 stamp 9 tick 4\n> missing\n",
		api.EvTick:   "tick 1099511627776\n",
		api.EvVacuum: "vacuum 18446744073709551615 4096\n",
		0:            "?\n", 5: "?\n", -1: "?\n", math.MaxInt: "?\n", math.MinInt: "?\n",
	} {
		e := full
		e.Kind = kind
		tells(t, want, e)
		tells(t, want+want, e, e)
		tells(t, "?\n"+want+"tick 0\n", api.Event{}, e, api.Event{Kind: api.EvTick})
	}
	// Of an event that has nothing.
	tells(t, "ask 0 0 ?\nanswer 0 0 ? snap 0 tries 0\ntick 0\nvacuum 0 0\n",
		api.Event{Kind: api.EvAsk}, api.Event{Kind: api.EvAnswer}, api.Event{Kind: api.EvTick}, api.Event{Kind: api.EvVacuum})
	// Numbers below 0.
	tells(t, "ask -1 -2 ?\n", api.Event{Kind: api.EvAsk, Client: -1, Number: -2})
	tells(t, "tick -9223372036854775808\n", api.Event{Kind: api.EvTick, Tick: math.MinInt64})
	tells(t, "vacuum 0 -7\n", api.Event{Kind: api.EvVacuum, Removed: -7})
	tells(t, "answer -3 -4 exists at -5 snap 0 tries -6 stamp 1 tick -7\n",
		api.Event{Kind: api.EvAnswer, Client: -3, Number: -4, Answer: api.Answer{Status: api.Exists, At: -5, Tries: -6, Stamp: 1, Tick: -7}})
}

// TestTellRequests is P20.1: a request that may be is told by its line, any other one by "?".
func TestTellRequests(t *testing.T) {
	for _, line := range []string{"read A/a", "once delete A/a if 999999999", "create A/a a=%0a b=%ff", "find 18446744073709551615 Patient n^x", "create A/a ; delete A/a", "update A/a r=*@nobody"} {
		tells(t, "ask 0 0 "+line+"\n", api.Event{Kind: api.EvAsk, Request: asked(t, line)})
	}
	for _, r := range unfit(t) {
		tells(t, "ask 0 0 ?\n", api.Event{Kind: api.EvAsk, Request: r})
	}
}

// TestTellAnswers is P20.1: what is told of each status, with stamp and without.
func TestTellAnswers(t *testing.T) {
	const tries = " snap 8 tries 2"
	for status, want := range map[int]string{
		api.Success: "success" + tries, api.Exists: "exists at 3" + tries, api.Mismatch: "mismatch at 3" + tries, api.Absent: "absent at 3" + tries,
		api.Several: "several at 3" + tries, api.Unfit: "unfit at 3" + tries, api.Conflict: "conflict" + tries, api.Tired: "tired" + tries,
		api.Full: "full" + tries, api.Past: "past at 3" + tries, api.Malformed: "malformed",
		0: "?" + tries, 12: "?" + tries, -1: "?" + tries, math.MaxInt: "?" + tries, math.MinInt: "?" + tries,
	} {
		e := api.Event{Kind: api.EvAnswer, Client: 1, Number: 2, Answer: api.Answer{Status: status, At: 3, Snap: 8, Tries: 2, Tick: 5}}
		tells(t, "answer 1 2 "+want+"\n", e)
		e.Answer.Stamp = math.MaxUint64
		tells(t, "answer 1 2 "+want+" stamp 18446744073709551615 tick 5\n", e)
		e.Answer.Replies = []api.Reply{{Kind: api.RepMade}, {Kind: api.RepList}}
		tells(t, "answer 1 2 "+want+" stamp 18446744073709551615 tick 5\n> made\n> list\n", e)
	}
}

// TestTellReplies is P20.1: a line of each reply, with all its finds.
func TestTellReplies(t *testing.T) {
	const ahead = "answer 0 0 success snap 0 tries 1\n"
	replies := func(l ...api.Reply) api.Event {
		return api.Event{Kind: api.EvAnswer, Answer: api.Answer{Status: api.Success, Tries: 1, Replies: l}}
	}
	one := api.Found{Key: api.Key{Type: "A", ID: "a"}, Version: api.Version{Number: 1, Stamp: 2, Tick: 3, Live: true, Value: []api.Field{{Name: "b", Texts: []string{"x", "y z", ""}}, {Name: "n", Texts: []string{"*A/a"}}}}}
	two := api.Found{Key: api.Key{Type: "B", ID: "p-1."}, Version: api.Version{Number: 999, Stamp: math.MaxUint64, Tick: 1 << 40}}
	const first, second = " ; A/a 1 2 3 live b=x b=y%20z b= n=*A/a", " ; B/p-1. 999 18446744073709551615 1099511627776 dead"
	for kind, word := range map[int]string{
		api.RepFound: "found", api.RepMade: "made", api.RepPut: "put", api.RepDropped: "dropped", api.RepMissing: "missing", api.RepDeleted: "deleted", api.RepList: "list",
		0: "?", 8: "?", -1: "?", math.MaxInt: "?", math.MinInt: "?",
	} {
		tells(t, ahead+"> "+word+"\n", replies(api.Reply{Kind: kind}))
		tells(t, ahead+"> "+word+first+"\n", replies(api.Reply{Kind: kind, List: []api.Found{one}}))
		tells(t, ahead+"> "+word+second+first+second+"\n> missing\n> "+word+first+"\n",
			replies(api.Reply{Kind: kind, List: []api.Found{two, one, two}}, api.Reply{Kind: api.RepMissing}, api.Reply{Kind: kind, List: []api.Found{one}}))
	}
	// What no store tells: names and texts of any bytes, fields without texts, fields of one that is dead.
	odd := api.Found{Key: api.Key{Type: "a b\n", ID: "/;"}, Version: api.Version{Number: -1, Tick: -2, Value: []api.Field{{Name: "x=y", Texts: []string{"%", "\xff"}}, {Name: "none"}, {Name: "", Texts: []string{""}}}}}
	tells(t, ahead+"> found ; a%20b%0a//%3b -1 0 -2 dead x%3dy=%25 x%3dy=%ff =\n", replies(api.Reply{Kind: api.RepFound, List: []api.Found{odd}}))
	tells(t, ahead+"> list ; / 0 0 0 dead ; / 0 0 0 dead\n", replies(api.Reply{Kind: api.RepList, List: []api.Found{{}, {}}}))
	// An event that doesn't answer tells no replies.
	e := replies(api.Reply{Kind: api.RepMissing})
	e.Kind = api.EvTick
	tells(t, "tick 0\n", e)
}

// TestTellDrawn is P20.1: any events, told one by one and as a whole.
func TestTellDrawn(t *testing.T) {
	d := &draw{state: 203}
	for range 4000 {
		var l []api.Event
		var each strings.Builder
		for range d.below(6) {
			e := d.event()
			l = append(l, e)
			each.WriteString(Tell([]api.Event{e}))
		}
		if got, want := Tell(l), speltTell(l); got != want || got != each.String() {
			t.Fatalf("Tell(%+v): %q; want %q", l, got, want)
		}
	}
}
