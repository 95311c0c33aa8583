package script

import (
	"fmt"
	"strings"
	"testing"

	"folio/api"
)

// reads fails unless Parse answers what the reader that is spelt out does.
func reads(t *testing.T, s string) api.Errno {
	t.Helper()
	p, line, e := Parse(s)
	q, at, no := speltParse(s)
	if spelt(p) != spelt(q) || line != at || e != no {
		t.Fatalf("Parse(%.300q): %.300s, %d, %v; want %.300s, %d, %v", s, spelt(p), line, e, spelt(q), at, no)
	}
	return e
}

// usually is a play with the configuration of a script that names none.
func usually(clients [][]api.Request, actions ...api.Action) api.Play {
	return api.Play{Config: api.Config{Versions: 4096, Tracked: 64, Tries: 8}, Clients: clients, Actions: actions}
}

// TestParse is P20.1: what each line says.
func TestParse(t *testing.T) {
	read, made, once := asked(t, "read A/a"), asked(t, "create A/a n=1"), asked(t, "once read A/a ; read B/b")
	vacuum := api.Action{Kind: api.AcVacuum}
	pick := func(n int64) api.Action { return api.Action{Kind: api.AcPick, N: n} }
	tick := func(n int64) api.Action { return api.Action{Kind: api.AcTick, N: n} }
	for s, want := range map[string]api.Play{
		"":             usually(nil),
		"\n\n#\n":      usually(nil),
		"0 read A/a":   usually([][]api.Request{{read}}),
		"0 read A/a\n": usually([][]api.Request{{read}}),
		"7 read A/a":   usually([][]api.Request{nil, nil, nil, nil, nil, nil, nil, {read}}),
		"2 once read A/a ; read B/b\n0 read A/a\n2 create A/a n=1\n2 read A/a": usually([][]api.Request{{read}, nil, {once, made, read}}),
		"pick 0":                             usually(nil, pick(0)),
		"pick 7 0 7":                         usually(nil, pick(7), pick(0), pick(7)),
		"tick 0\ntick 3\ntick 1099511627776": usually(nil, tick(0), tick(3), tick(1<<40)),
		"vacuum\nvacuum":                     usually(nil, vacuum, vacuum),
		"pick 1\n1 read A/a\nvacuum\n0 create A/a n=1\ntick 2\npick 0 1": usually([][]api.Request{{made}, {read}}, pick(1), vacuum, tick(2), pick(0), pick(1)),
		"config 9 4 2 7":                           {Config: api.Config{Versions: 9, Tracked: 4, Tries: 2, First: 7}},
		"#\n\nconfig 1 0 1 0\n":                    {Config: api.Config{Versions: 1, Tries: 1}},
		"config 4096 64 8 18446744073709551615\n#": {Config: api.Config{Versions: 4096, Tracked: 64, Tries: 8, First: api.MaxStamp}},
		"config 9 4 2 7\n0 read A/a\ntick 1":       {Config: api.Config{Versions: 9, Tracked: 4, Tries: 2, First: 7}, Clients: [][]api.Request{{read}}, Actions: []api.Action{tick(1)}},
		// Words of fields and terms in another order, as layer 16 reads them.
		"0 search A b? a=1 a=1": usually([][]api.Request{{asked(t, "search A a=1 b?")}}),
	} {
		if p := parsed(t, s); spelt(p) != spelt(want) {
			t.Errorf("Parse(%q): %+v; want %+v", s, p, want)
		}
		reads(t, s)
	}
}

// broken are lines that are none, wherever they stand.
func broken() []string {
	return []string{
		" ", "  ", " #", "\t", "\r", "\x00", "\xff", "x", "fly", "?", ">", ";", "é",
		// Clients and their requests.
		"0", "0 ", "0  ", "0 read", "0 read A/a ", "0  read A/a", " 0 read A/a", "0 read A/a\r", "0\tread A/a", "0 0 read A/a", "read A/a", "8 read A/a", "9 read A/a", "10 read A/a", "00 read A/a", "01 read A/a", "-0 read A/a", "-1 read A/a", "+1 read A/a", "x read A/a", "0x1 read A/a", "1_0 read A/a", "\uff10 read A/a", "18446744073709551616 read A/a", "4294967296 read A/a", "0 read A/a ; ", "0 read A/a # so", "0 # so", "0 create A/a a", "0 patch A/a", "0 once", "0 pick 0", "0 vacuum", "0,read A/a", "0: read A/a",
		// Picks.
		"pick", "pick ", "pick  ", "pick 8", "pick 0 8", "pick 9", "pick 00", "pick 01", "pick -1", "pick -0", "pick +0", "pick 0 ", "pick  0", "pick 0  1", " pick 0", "pick x", "pick 0x0", "pick 0,1", "pick 0 1 x", "pick 0\r", "pick\t0", "pick0", "Pick 0", "PICK 0", "picks 0", "pic 0", "pick 4294967296", "pick 18446744073709551616", "pick 18446744073709551615", "pick 1.0", "pick 1e0", "pick \uff10", "pick 0 # so",
		// Ticks.
		"tick", "tick ", "tick 01", "tick 00", "tick -1", "tick -0", "tick +1", "tick 1 1", "tick 1 ", "tick  1", " tick 1", "tick x", "tick 1099511627777", "tick 9223372036854775808", "tick 18446744073709551615", "tick 18446744073709551616", "tick 99999999999999999999999999", "tick 1.0", "tick 1e3", "tick 1_0", "tick 0x1", "Tick 1", "ticks 1", "tick1", "tick\t1", "tick 1\r",
		// Vacuums.
		"vacuum ", "vacuum 0", "vacuum 1", " vacuum", "vacuum\r", "Vacuum", "vacuums", "vacuu", "vacuum#", "vacuum # so",
		// Configurations.
		"config", "config ", "config 9", "config 9 4 2", "config 9 4 2 ", "config 9 4 2 0 ", "config 9 4 2 0 0", "config  9 4 2 0", "config 9 4  2 0", " config 9 4 2 0", "config 9 4 2 0\r", "config\t9 4 2 0", "config9 4 2 0", "Config 9 4 2 0", "configs 9 4 2 0",
		"config 0 4 2 0", "config 4097 4 2 0", "config 9 65 2 0", "config 9 4 0 0", "config 9 4 9 0", "config 9 4 2 18446744073709551616", "config 9 -1 2 0", "config -9 4 2 0", "config 9 4 -2 0", "config 9 4 2 -1", "config 09 4 2 0", "config 9 04 2 0", "config 9 4 02 0", "config 9 4 2 00", "config 9 4 2 01", "config +9 4 2 0", "config 9 4 2 +0", "config x 4 2 0", "config 9 x 2 0", "config 9 4 x 0", "config 9 4 2 x", "config 18446744073709551617 4 2 0", "config 4294967305 4 2 0", "config 9 18446744073709551616 2 0", "config 9 18446744073709551615 2 0", "config 9 4 18446744073709551618 0", "config 9.0 4 2 0", "config 9 4 2 1e3",
	}
}

// refuses fails unless Parse names a line, and tells nothing else.
func refuses(t *testing.T, s string, want int) {
	t.Helper()
	p, line, e := Parse(s)
	if spelt(p) != spelt(api.Play{}) || line != want || e != api.ErrLine {
		t.Errorf("Parse(%.300q): %.300s, %d, %v; want %d", s, spelt(p), line, e, want)
	}
	reads(t, s)
}

// TestBroken is P20.1: a line that is none is told by its number, the first one of them, lines that say nothing counted too.
func TestBroken(t *testing.T) {
	for _, line := range broken() {
		refuses(t, line, 1)
		refuses(t, line+"\n", 1)
		refuses(t, "\n#\n"+line, 3)
		refuses(t, "0 read A/a\npick 0\n\n"+line+"\nvacuum\n\nfly", 4)
		refuses(t, "config 9 4 2 0\n"+line+"\n"+line, 2)
		// What says nothing may have any such words in it.
		parsed(t, "#"+line)
	}
}

// TestConfigLine is P20.1: a configuration stands only on the first line that says something.
func TestConfigLine(t *testing.T) {
	const config = "config 9 4 2 0"
	for _, first := range []string{config, "pick 0", "tick 1", "vacuum", "3 read A/a"} {
		refuses(t, first+"\n"+config, 2)
		refuses(t, "#\n"+first+"\n\n"+config+"\n"+config, 4)
		refuses(t, first+"\nvacuum\n"+config, 3)
	}
	for _, silent := range []string{"", "#", "# config 1 1 1 1", "#pick 0"} {
		if p := parsed(t, silent+"\n"+silent+"\n"+config+"\n"+silent+"\npick 0"); p.Config.Versions != 9 || len(p.Actions) != 1 {
			t.Error(silent, p)
		}
	}
}

// TestManyActions is P20.1: at most MaxActions of them, however they stand on lines.
func TestManyActions(t *testing.T) {
	picks := func(n int) string { return "pick" + strings.Repeat(" 3", n) }
	for _, most := range []string{
		picks(4096), strings.Repeat("vacuum\n", 4096), strings.Repeat("tick 5\n", 4096), strings.Repeat("pick 1\n", 4096),
		picks(4000) + "\n0 read A/a\n" + picks(90) + strings.Repeat("\nvacuum\ntick 1\n#", 3),
	} {
		if p := parsed(t, most); len(p.Actions) != api.MaxActions {
			t.Error(len(p.Actions))
		}
		last := strings.Count(strings.TrimSuffix(most, "\n"), "\n") + 1
		for _, more := range []string{"pick 0", "tick 0", "vacuum", "pick 0 0 0"} {
			refuses(t, strings.TrimSuffix(most, "\n")+"\n"+more, last+1)
			refuses(t, strings.TrimSuffix(most, "\n")+"\n0 read A/a\n\n"+more, last+3)
		}
	}
	refuses(t, picks(4097), 1)
	refuses(t, "vacuum\n"+picks(4096), 2)
	refuses(t, "vacuum\n"+picks(4097)+"\nfly", 2)
	refuses(t, picks(20000), 1)
}

// TestManyRequests is P20.1: at most MaxRequests of each client, of 8 clients.
func TestManyRequests(t *testing.T) {
	var w strings.Builder
	for number := range api.MaxRequests {
		for client := range api.MaxClients {
			fmt.Fprintf(&w, "%d number A/a %d\n", client, number)
		}
	}
	p := parsed(t, w.String())
	if len(p.Clients) != api.MaxClients {
		t.Fatal(len(p.Clients))
	}
	for client, requests := range p.Clients {
		if len(requests) != api.MaxRequests {
			t.Error(client, len(requests))
		}
		for number, r := range requests {
			if r.Entries[0].Number != number {
				t.Error(client, number, r)
			}
		}
		refuses(t, fmt.Sprintf("%s#\n%d read A/a\npick 9", w.String(), client), api.MaxClients*api.MaxRequests+2)
	}
	refuses(t, strings.Repeat("5 read A/a\n", 66), 65)
	if p := parsed(t, strings.Repeat("5 read A/a\n", 64)+strings.Repeat("6 read A/a\n", 64)); len(p.Clients) != 7 {
		t.Error(len(p.Clients))
	}
}

// TestLong is P20.1: of more than MaxScript bytes nothing is looked at.
func TestLong(t *testing.T) {
	for _, c := range []struct{ line, fill string }{{"vacuum\n", "\n"}, {"vacuum\n", "#"}, {"0 read A/a\n", "#"}, {"fly\n", "\n"}, {"", "\n"}, {"", "#"}, {"", "\x00"}, {"pick", " 0"}, {"config 9 4 2 0\n#", "\xff"}} {
		for size := api.MaxScript - 2; size <= api.MaxScript+3; size++ {
			s := c.line + strings.Repeat(c.fill, size)
			s = s[:size]
			e := reads(t, s)
			if (size > api.MaxScript) != (e == api.ErrLong) {
				t.Errorf("%q.. of %d bytes: %v", s[:10], size, e)
			}
		}
	}
	for _, size := range []int{api.MaxScript + 1, 2 * api.MaxScript, 10 * api.MaxScript} {
		if p, line, e := Parse(strings.Repeat("vacuum\n", size)[:size]); spelt(p) != spelt(api.Play{}) || line != 0 || e != api.ErrLong {
			t.Error(size, p, line, e)
		}
	}
	// The last line of as many as there can be.
	refuses(t, strings.Repeat("\n", api.MaxScript-1)+"x", api.MaxScript)
	refuses(t, strings.Repeat("\n", api.MaxScript-2)+"x\n", api.MaxScript-1)
}

// TestShortTexts is P20.1: all texts of up to so many of some telling pieces.
func TestShortTexts(t *testing.T) {
	pieces := []string{"\n", " ", "#", "0", "1", "9", "pick", "tick", "vacuum", "config", "read A/a"}
	var all func(s string, left int)
	taken := 0
	all = func(s string, left int) {
		if reads(t, s) == api.OK {
			taken++
		}
		for _, piece := range pieces {
			if left > 0 {
				all(s+piece, left-1)
			}
		}
	}
	all("", 5)
	for _, line := range []string{"config 9 4 1 0\n", "pick 0", "0 read A/a", "tick 1", "vacuum\n"} {
		all(line, 3)
	}
	if taken < 5000 {
		t.Error(taken)
	}
}

// TestDrawnTexts is P20.1: drawn scripts, whole and hurt.
func TestDrawnTexts(t *testing.T) {
	d := &draw{state: 201}
	took, not := 0, 0
	for range 6000 {
		s := strings.Join(d.silent(d.script(8, 6, 20)), "\n")
		if reads(t, s) != api.OK {
			t.Fatalf("%q is refused", s)
		}
		for range 1 + d.below(3) {
			s = d.hurt(s)
		}
		if reads(t, s) == api.OK {
			took++
		} else {
			not++
		}
	}
	if took < 500 || not < 500 {
		t.Error(took, not)
	}
}
