package script

import (
	"math"
	"strings"
	"testing"

	"folio/api"
	"folio/op"
)

// good is a play that is a script's.
func good(t *testing.T) api.Play {
	t.Helper()
	return parsed(t, "config 9 4 2 5\n0 read A/a ; read B/b\n2 create @x A/a n=%20 ; ensure A/b r=*@x ? n-\n2 once delete A/a if 2\npick 7\ntick 3\nvacuum")
}

// TestPrint is P20.1: the configuration, the requests client by client, the actions, a line each.
func TestPrint(t *testing.T) {
	const usual = "config 4096 64 8 0\n"
	for s, want := range map[string]string{
		"":                                   usual,
		"# nothing":                          usual,
		"pick 0 1 7":                         usual + "pick 0\npick 1\npick 7\n",
		"tick 0\nvacuum\ntick 1099511627776": usual + "tick 0\nvacuum\ntick 1099511627776\n",
		"config 1 0 1 18446744073709551615":  "config 1 0 1 18446744073709551615\n",
		"3 read A/a":                         usual + "3 read A/a\n",
		"vacuum\n1 read A/b\npick 1 0\n0 read A/a\n\n1 once search A b? a=1\n0 delete A/a": usual + "0 read A/a\n0 delete A/a\n1 read A/b\n1 once search A a=1 b?\nvacuum\npick 1\npick 0\n",
	} {
		p := parsed(t, s)
		if got := printed(t, p); got != want || got != speltPrint(p) {
			t.Errorf("Print of %q: %q; want %q", s, got, want)
		}
	}
	if got := printed(t, good(t)); got != "config 9 4 2 5\n0 read A/a ; read B/b\n2 create @x A/a n=%20 ; ensure A/b r=*@x ? n-\n2 once delete A/a if 2\npick 7\ntick 3\nvacuum\n" {
		t.Errorf("%q", got)
	}
	// Lists without elements mean the same, nil or empty.
	p := good(t)
	p.Clients[1] = []api.Request{}
	if printed(t, p) != printed(t, good(t)) {
		t.Error(p)
	}
	p = api.Play{Config: p.Config, Clients: [][]api.Request{}, Actions: []api.Action{}}
	if printed(t, p) != "config 9 4 2 5\n" {
		t.Error(p)
	}
}

// turned are plays of which each is no script's, for one thing that is turned in a good one.
func turned(t *testing.T) []api.Play {
	t.Helper()
	var l []api.Play
	add := func(turn func(p *api.Play)) {
		p := good(t)
		turn(&p)
		l = append(l, p)
	}
	for _, n := range []int{0, -1, api.MaxVersions + 1, math.MinInt, math.MaxInt} {
		add(func(p *api.Play) { p.Config.Versions = n })
	}
	for _, n := range []int{-1, api.MaxTracked + 1, math.MinInt, math.MaxInt} {
		add(func(p *api.Play) { p.Config.Tracked = n })
	}
	for _, n := range []int{0, -1, api.MaxTries + 1, math.MinInt, math.MaxInt} {
		add(func(p *api.Play) { p.Config.Tries = n })
	}
	add(func(p *api.Play) { p.Config = api.Config{} })
	add(func(p *api.Play) { *p = api.Play{} })
	read := asked(t, "read A/a")
	many := make([]api.Request, api.MaxRequests+1)
	for i := range many {
		many[i] = read
	}
	one := []api.Request{read}
	// The last client has a request, and there are not too many.
	for _, clients := range [][][]api.Request{
		{nil}, {{}}, {one, nil}, {one, {}}, {nil, nil, nil}, {one, one, one, one, one, one, one, nil},
		{one, one, one, one, one, one, one, one, one}, {one, one, one, one, one, one, one, one, nil}, make([][]api.Request, 9), make([][]api.Request, 1000),
		{many}, {many, one}, {one, many}, {nil, many, one},
	} {
		add(func(p *api.Play) { p.Clients = clients })
	}
	for _, r := range unfit(t) {
		for client := range 3 {
			add(func(p *api.Play) { p.Clients[client] = append(p.Clients[client], r) })
			add(func(p *api.Play) { p.Clients[client] = append([]api.Request{r}, p.Clients[client]...) })
		}
	}
	for _, a := range odd() {
		add(func(p *api.Play) { p.Actions = append(p.Actions, a) })
		add(func(p *api.Play) { p.Actions = append([]api.Action{a}, p.Actions...) })
	}
	add(func(p *api.Play) {
		for len(p.Actions) <= api.MaxActions {
			p.Actions = append(p.Actions, api.Action{Kind: api.AcVacuum})
		}
	})
	return l
}

// odd are actions that no line says.
func odd() []api.Action {
	l := []api.Action{{}, {Kind: 4}, {Kind: -1}, {Kind: 0, N: 1}, {Kind: math.MaxInt}, {Kind: math.MinInt}}
	for _, n := range []int64{-1, 8, 9, 1 << 32, -1 << 32, math.MaxInt64, math.MinInt64} {
		l = append(l, api.Action{Kind: api.AcPick, N: n})
	}
	for _, n := range []int64{-1, 1<<40 + 1, math.MaxInt64, math.MinInt64} {
		l = append(l, api.Action{Kind: api.AcTick, N: n})
	}
	for _, n := range []int64{-1, 1, 7, math.MaxInt64, math.MinInt64} {
		l = append(l, api.Action{Kind: api.AcVacuum, N: n})
	}
	return l
}

// unfit are requests that may not be.
func unfit(t *testing.T) []api.Request {
	t.Helper()
	read := asked(t, "read A/a").Entries[0]
	many := api.Request{}
	for len(many.Entries) <= api.MaxEntries {
		many.Entries = append(many.Entries, read)
	}
	l := []api.Request{{}, {Once: true}, {Entries: []api.Entry{}}, {Entries: []api.Entry{{}}}, {Entries: []api.Entry{read, {}}}, many}
	for _, turn := range []func(e *api.Entry){
		func(e *api.Entry) { e.Kind = 13 },
		func(e *api.Entry) { e.Key.Type = "a" },
		func(e *api.Entry) { e.Key.ID = "a\n1 read A/a" },
		func(e *api.Entry) { e.Number = 1 },
		func(e *api.Entry) { e.Value = []api.Field{{Name: "a", Texts: []string{"x"}}} },
		func(e *api.Entry) { e.Kind, e.Value = api.EnCreate, []api.Field{{Name: "a"}} },
		func(e *api.Entry) {
			e.Kind, e.Key.ID, e.Pred = api.EnSearch, "", []api.Term{{Field: "b", Op: api.OpHas}, {Field: "a", Op: api.OpHas}}
		},
	} {
		e := read
		turn(&e)
		l = append(l, api.Request{Entries: []api.Entry{e}})
	}
	return l
}

// formless fails unless Print answers ErrForm.
func formless(t *testing.T, p api.Play) {
	t.Helper()
	if s, e := Print(p); s != "" || e != api.ErrForm {
		t.Errorf("%d bytes, %v; %.300s", len(s), e, spelt(p))
	}
}

// TestNoScript is P20.1: what is no script's play is ErrForm, also where its script would be too long.
func TestNoScript(t *testing.T) {
	for _, p := range turned(t) {
		formless(t, p)
	}
	for _, size := range []int{api.MaxScript, api.MaxScript + 1, 2 * api.MaxScript} {
		turn := func(turn func(p *api.Play)) {
			p := sized(t, size)
			turn(&p)
			formless(t, p)
		}
		turn(func(p *api.Play) { p.Config.Tries = 0 })
		turn(func(p *api.Play) { p.Clients = append(p.Clients, nil) })
		turn(func(p *api.Play) { p.Clients[0] = append(p.Clients[0], p.Clients[0]...) })
		turn(func(p *api.Play) { p.Actions = make([]api.Action, api.MaxActions+1) })
		for _, r := range unfit(t) {
			turn(func(p *api.Play) { p.Clients[0][0] = r })
			turn(func(p *api.Play) {
				last := p.Clients[len(p.Clients)-1]
				last[len(last)-1] = r
			})
		}
		for _, a := range odd() {
			turn(func(p *api.Play) { p.Actions = []api.Action{{Kind: api.AcVacuum}, a} })
		}
	}
}

// sized is a play whose script has so many bytes; as many more requests a client as it needs.
func sized(t *testing.T, size int) api.Play {
	t.Helper()
	const ahead, least, most = "config 9 4 2 5\n", len("0 create A/a a=\n"), len("0 create A/a a=\n") + api.MaxText
	p := api.Play{Config: api.Config{Versions: 9, Tracked: 4, Tries: 2, First: 5}}
	for number, left := 0, size-len(ahead); left > 0; number++ {
		take := min(left, most)
		if rest := left - take; rest > 0 && rest < least {
			take -= least
		}
		if number%api.MaxRequests == 0 && len(p.Clients) < api.MaxClients {
			p.Clients = append(p.Clients, nil)
		}
		last := len(p.Clients) - 1
		p.Clients[last] = append(p.Clients[last], asked(t, "create A/a a="+strings.Repeat("x", take-least)))
		left -= take
	}
	return p
}

// TestPrintLong is P20.1: a script of more than MaxScript bytes is ErrLong, whatever makes it so.
func TestPrintLong(t *testing.T) {
	for size := api.MaxScript - 40; size <= api.MaxScript+40; size++ {
		s, e := Print(sized(t, size))
		if size > api.MaxScript && (s != "" || e != api.ErrLong) || size <= api.MaxScript && (len(s) != size || e != api.OK) {
			t.Errorf("%d bytes: %d, %v", size, len(s), e)
		}
	}
	// The actions alone make it too long.
	p := sized(t, api.MaxScript-len("vacuum\n"))
	for _, c := range []struct {
		action string
		want   api.Errno
	}{{"pick 7", api.OK}, {"tick 9", api.OK}, {"vacuum", api.OK}, {"tick 10", api.ErrLong}, {"pick 1\npick 2", api.ErrLong}, {"tick 99", api.ErrLong}} {
		p.Actions = parsed(t, c.action).Actions
		if s, e := Print(p); e != c.want || e != api.OK && s != "" {
			t.Errorf("%s: %d, %v", c.action, len(s), e)
		}
	}
	// Requests of as many bytes as there can be.
	var fields []string
	for _, name := range strings.Split("abcdefghijklmnop", "") {
		for range api.MaxTexts {
			fields = append(fields, name+"="+strings.Repeat("%00", api.MaxText))
		}
	}
	r := asked(t, "create A/a "+strings.Join(fields, " "))
	p = good(t)
	p.Clients[0] = []api.Request{r}
	if s, e := Print(p); e != api.OK || len(s) < 49000 {
		t.Error(len(s), e)
	}
	for len(p.Clients[0]) < api.MaxRequests {
		p.Clients[0] = append(p.Clients[0], r)
		if s, e := Print(p); s != "" || e != api.ErrLong {
			t.Error(len(s), e)
		}
	}
}

// back fails unless a play that Parse has told is printed, if it isn't too long, and read again as the same play; told is whether it was printed.
func back(t *testing.T, p api.Play) bool {
	t.Helper()
	want := speltPrint(p)
	s, e := Print(p)
	if len(want) > api.MaxScript {
		if s != "" || e != api.ErrLong {
			t.Fatalf("Print(%.300s): %.300q, %v", spelt(p), s, e)
		}
		return false
	}
	if s != want || e != api.OK {
		t.Fatalf("Print(%.300s): %.300q, %v; want %.300q", spelt(p), s, e, want)
	}
	q := parsed(t, s)
	if !alike(p, q) {
		t.Fatalf("Parse(%.300q): %.300s; want %.300s", s, spelt(q), spelt(p))
	}
	if again := printed(t, q); again != s {
		t.Fatalf("Print of Parse(%.300q): %.300q", s, again)
	}
	return true
}

// alike says whether two plays are the same, as layer 16 says it of requests.
func alike(p, q api.Play) bool {
	if p.Config != q.Config || len(p.Clients) != len(q.Clients) || len(p.Actions) != len(q.Actions) {
		return false
	}
	for i := range p.Actions {
		if p.Actions[i] != q.Actions[i] {
			return false
		}
	}
	for n := range p.Clients {
		if len(p.Clients[n]) != len(q.Clients[n]) {
			return false
		}
		for i := range p.Clients[n] {
			if !op.Equal(p.Clients[n][i], q.Clients[n][i]) {
				return false
			}
		}
	}
	return true
}

// TestThereAndBack is P20.2: what Parse takes, of drawn texts, whole and hurt, and of long ones.
func TestThereAndBack(t *testing.T) {
	d := &draw{state: 202}
	for range 4000 {
		s := strings.Join(d.silent(d.script(8, 8, 25)), "\n")
		back(t, parsed(t, s))
		if p, _, e := Parse(d.hurt(s)); e == api.OK {
			back(t, p)
		}
	}
	for range 40 {
		if s := strings.Join(d.script(8, 64, 200), "\n"); len(s) <= api.MaxScript {
			back(t, parsed(t, s))
		}
	}
	long := 0
	// Many picks on few lines need more bytes when each has a line of its own.
	for requests := range 60 {
		s := "pick" + strings.Repeat(" 1", api.MaxActions) + strings.Repeat("\n0 create A/a a="+strings.Repeat("x", api.MaxText)+" b="+strings.Repeat("%ff", api.MaxText)+" ; create A/b a="+strings.Repeat("%00", api.MaxText), requests)
		if !back(t, parsed(t, s)) {
			long++
		}
	}
	if long < 5 {
		t.Error(long)
	}
}
