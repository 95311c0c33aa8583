package bundle

import (
	"slices"
	"strings"
	"testing"

	"folio/api"
	"folio/op"
	"folio/store"
	"folio/value"
)

func key(typ, id string) api.Key { return api.Key{Type: typ, ID: id} }

func one(name string, texts ...string) api.Field { return api.Field{Name: name, Texts: texts} }

func fields(l ...api.Field) []api.Field { return l }

// parsed is the request of a line.
func parsed(t *testing.T, line string) api.Request {
	t.Helper()
	r, e := op.Parse(line)
	if e != api.OK {
		t.Fatalf("%q: %v", line, e)
	}
	return r
}

func made(t *testing.T) *store.Store {
	t.Helper()
	s, e := store.New(api.Config{Versions: 99, Tracked: 4, Tries: 1})
	if e != api.OK {
		t.Fatal(e)
	}
	return s
}

// commit does a request in a transaction of its own, which is committed.
func commit(t *testing.T, s *store.Store, line string) api.Answer {
	t.Helper()
	x := s.Begin()
	a := Do(x, parsed(t, line))
	if _, e := x.Commit(); e != api.OK {
		t.Fatalf("%q: %v", line, e)
	}
	return a
}

// try does a request in a transaction of its own, which is given up.
func try(t *testing.T, s *store.Store, line string) api.Answer {
	t.Helper()
	x := s.Begin()
	a := Do(x, parsed(t, line))
	x.Give()
	return a
}

// show is a reply in words: its kind, and each key with its version's number, stamp, tick and value.
func show(r api.Reply) string {
	words := []string{strings.Split("nothing found made put dropped missing deleted list", " ")[r.Kind]}
	for _, f := range r.List {
		v := f.Version
		line, _ := value.Print(v.Value)
		if !v.Live {
			line = "not live"
		}
		words = append(words, f.Key.Type+"/"+f.Key.ID+" "+digits(v.Number)+"."+digits(int(v.Stamp))+"."+digits(int(v.Tick))+" ("+line+")")
	}
	return strings.Join(words, " ")
}

func digits(n int) string { return string(rune('0' + n)) }

func shown(l []api.Reply) []string {
	var words []string
	for _, r := range l {
		words = append(words, show(r))
	}
	return words
}

// succeeds fails unless an answer is Success with these replies.
func succeeds(t *testing.T, a api.Answer, snap uint64, replies ...string) {
	t.Helper()
	if a.Status != api.Success || a.At != 0 || a.Snap != snap || a.Stamp != 0 || a.Tick != 0 || a.Tries != 0 {
		t.Errorf("%+v", a)
	}
	if got := shown(a.Replies); !slices.Equal(got, replies) {
		t.Errorf("%q, not %q", got, replies)
	}
}

// fails fails unless an answer has a status and a place, and no replies.
func fails(t *testing.T, a api.Answer, snap uint64, status, at int) {
	t.Helper()
	if a.Status != status || a.At != at || a.Snap != snap || len(a.Replies) != 0 || a.Stamp != 0 || a.Tick != 0 || a.Tries != 0 {
		t.Errorf("%+v, not status %d at %d", a, status, at)
	}
}

// The chapter's examples: P17.1.
func TestExamples(t *testing.T) {
	s := made(t)
	succeeds(t, commit(t, s, "create @x A/a n=1 ; create B/b r=*@x"), 0, "made A/a 1.0.0 (n=1)", "made B/b 1.0.0 (r=*A/a)")
	succeeds(t, commit(t, s, "ensure @y A/z n=1 ? n=1 ; update B/b r=*@y"), 1, "found A/a 1.1.0 (n=1)", "put B/b 2.0.0 (r=*A/a)")
	fails(t, try(t, s, "create A/a"), 2, api.Exists, 0)
	fails(t, try(t, s, "delete A/q"), 2, api.Absent, 0)
	fails(t, try(t, s, "update A/a if 2 n=2"), 2, api.Mismatch, 0)
	fails(t, try(t, s, "patch A/a n==2"), 2, api.Unfit, 0)
	fails(t, try(t, s, "create C/c r=*@w"), 2, api.Unfit, 0)
	succeeds(t, try(t, s, "read A/a ; delete A/a"), 2, "deleted A/a 2.0.0 (not live)", "dropped A/a 2.0.0 (not live)")
	if e := Fit(parsed(t, "update A/a n=1 ; delete A/a")); e != api.ErrTwice {
		t.Error(e)
	}
	fails(t, try(t, s, "update A/a n=1 ; delete A/a"), 0, api.Malformed, 0)
}

// world is a store with: A/a number 3 (n=1), A/b deleted, A/c number 1 (n=1 n=2), B/a number 1 (r=*A/a); its last stamp is 6, its tick 4, its floor 0.
func world(t *testing.T) *store.Store {
	t.Helper()
	s := made(t)
	for _, line := range []string{"create A/a n=0 ; create A/b n=1", "update A/a n=3", "delete A/b", "create A/c n=1 n=2"} {
		commit(t, s, line)
	}
	s.Tick(4)
	commit(t, s, "patch A/a n:=1 m:=x")
	commit(t, s, "create B/a r=*A/a")
	return s
}

// What each kind of entry does when it doesn't fail: P17.1.
func TestReplies(t *testing.T) {
	s := world(t)
	a, c := "A/a 3.5.4 (m=x n=1)", "A/c 1.4.0 (n=1 n=2)"
	for line, want := range map[string][]string{
		"create A/d n=7 m=8":           {"made A/d 1.0.0 (m=8 n=7)"},
		"create A/d":                   {"made A/d 1.0.0 ()"},
		"create A/b n=2":               {"made A/b 3.0.0 (n=2)"},
		"ensure A/d n=9 ? n=9":         {"made A/d 1.0.0 (n=9)"},
		"ensure A/b n=9 ? n=9":         {"made A/b 3.0.0 (n=9)"},
		"ensure A/d n=9 ? m?":          {"found " + a},
		"ensure A/a n=9 ? m?":          {"found " + a},
		"ensure A/a n=9 r=*@q ? m?":    {"found " + a},
		"ensure B/z ?":                 {"found B/a 1.6.4 (r=*A/a)"},
		"ensure C/z ?":                 {"made C/z 1.0.0 ()"},
		"update A/a n=2":               {"put A/a 4.0.0 (n=2)"},
		"update A/a if 3 n=2":          {"put A/a 4.0.0 (n=2)"},
		"update A/a":                   {"put A/a 4.0.0 ()"},
		"update A/b n=2":               {"made A/b 3.0.0 (n=2)"},
		"update A/d n=2":               {"made A/d 1.0.0 (n=2)"},
		"patch A/a n+=2 m~":            {"put A/a 4.0.0 (n=1 n=2)"},
		"patch A/a if 3 n==1 n:=4":     {"put A/a 4.0.0 (m=x n=4)"},
		"patch A/a n-=1 m~":            {"put A/a 4.0.0 ()"},
		"delete A/a":                   {"dropped A/a 4.0.0 (not live)"},
		"delete A/a if 3":              {"dropped A/a 4.0.0 (not live)"},
		"read A/a":                     {"found " + a},
		"read A/b":                     {"deleted A/b 2.3.0 (not live)"},
		"read A/d":                     {"missing"},
		"number A/a 1":                 {"found A/a 1.1.0 (n=0)"},
		"number A/a 3":                 {"found " + a},
		"number A/b 2":                 {"deleted A/b 2.3.0 (not live)"},
		"number A/a 4":                 {"missing"},
		"number A/a 0":                 {"missing"},
		"number A/d 1":                 {"missing"},
		"number A/a 999999999":         {"missing"},
		"search A":                     {"list " + a + " " + c},
		"search A n=2":                 {"list " + c},
		"search A n=9":                 {"list"},
		"search D":                     {"list"},
		"history A/a 0":                {"list A/a 1.1.0 (n=0) A/a 2.2.0 (n=3) " + a},
		"history A/a 2":                {"list " + a},
		"history A/a 5":                {"list"},
		"history A/b 1":                {"list A/b 2.3.0 (not live)"},
		"history A/d 0":                {"list"},
		"since A 2":                    {"list A/b 2.3.0 (not live) " + c + " " + a},
		"since A 18446744073709551615": {"list"},
		"since B 0":                    {"list B/a 1.6.4 (r=*A/a)"},
		"at 2 A/b":                     {"found A/b 1.1.0 (n=1)"},
		"at 3 A/b":                     {"deleted A/b 2.3.0 (not live)"},
		"at 0 A/b":                     {"missing"},
		"at 18446744073709551615 A/a":  {"found " + a},
		"find 2 A n=1":                 {"list A/b 1.1.0 (n=1)"},
		"find 9 A n=1":                 {"list " + a + " " + c},
		"find 0 A":                     {"list"},
		"create A/d ; read A/d ; search A ; number A/d 1": {"made A/d 1.0.0 ()", "found A/d 1.0.0 ()", "list " + a + " " + c + " A/d 1.0.0 ()", "missing"},
		"delete A/a ; at 9 A/a ; find 9 A ; search A":     {"dropped A/a 4.0.0 (not live)", "found " + a, "list " + a + " " + c, "list " + c},
	} {
		got := try(t, s, line)
		if got.Status != api.Success || got.At != 0 || got.Snap != 6 || !slices.Equal(shown(got.Replies), want) {
			t.Errorf("%s: status %d at %d, %q, not %q", line, got.Status, got.At, shown(got.Replies), want)
		}
	}
}

// By what each kind of entry fails, and where, if several entries would: P17.1.
func TestFailures(t *testing.T) {
	s := world(t)
	for _, c := range []struct {
		line       string
		status, at int
	}{
		{"create A/a", api.Exists, 0},
		{"create A/a r=*@q", api.Exists, 0},
		{"create A/b r=*@q", api.Unfit, 0},
		{"ensure A/a n=7 ? n=7", api.Exists, 0},
		{"ensure A/a r=*@q ? n=7", api.Exists, 0},
		{"ensure A/d r=*@q ? n=7", api.Unfit, 0},
		{"ensure A/d ?", api.Several, 0},
		{"ensure A/d n=5 ? n=1", api.Several, 0},
		{"update A/b if 2", api.Absent, 0},
		{"update A/d if 1", api.Absent, 0},
		{"update A/a if 2", api.Mismatch, 0},
		{"update A/a if 4", api.Mismatch, 0},
		{"update A/a if 2 r=*@q", api.Mismatch, 0},
		{"update A/d if 2 r=*@q", api.Absent, 0},
		{"update A/a r=*@q", api.Unfit, 0},
		{"update A/a if 3 r=*@q", api.Unfit, 0},
		{"patch A/b n~", api.Absent, 0},
		{"patch A/d n~", api.Absent, 0},
		{"patch A/d if 2 r:=*@q", api.Absent, 0},
		{"patch A/a if 2 n~", api.Mismatch, 0},
		{"patch A/a if 2 r:=*@q", api.Mismatch, 0},
		{"patch A/a r:=*@q", api.Unfit, 0},
		{"patch A/a n:=1 r+=*@q r~", api.Unfit, 0},
		{"patch A/a n-=3", api.Unfit, 0},
		{"patch A/a n==3", api.Unfit, 0},
		{"patch A/a n+=" + strings.Repeat("1 n+=", 7) + "8", api.Unfit, 0},
		{"delete A/b", api.Absent, 0},
		{"delete A/d", api.Absent, 0},
		{"delete A/b if 2", api.Absent, 0},
		{"delete A/a if 2", api.Mismatch, 0},
		// The first step that fails, not the first entry.
		{"read A/a ; patch A/a n==3 ; update A/c if 7 ; create B/a ; ensure A/d ? ; delete A/q", api.Absent, 5},
		{"read A/a ; patch A/a n==3 ; update A/c if 7 ; create B/a ; ensure A/d ?", api.Several, 4},
		{"read A/a ; patch A/a n==3 ; update A/c if 7 ; create B/a", api.Exists, 3},
		{"read A/a ; patch A/a n==3 ; update A/c if 7", api.Mismatch, 2},
		{"read A/a ; patch A/a n==3", api.Unfit, 1},
		{"create A/d ; update A/c if 7 ; create A/a", api.Exists, 2},
		{"ensure A/a n=7 ? n=7 ; create A/c", api.Exists, 0},
		{"create A/c ; ensure A/a n=7 ? n=7", api.Exists, 0},
		{"create A/c ; ensure A/d ?", api.Several, 1},
	} {
		x := s.Begin()
		fails(t, Do(x, parsed(t, c.line)), 6, c.status, c.at)
		if t.Failed() || len(x.Changes()) != 0 || x.Ended() {
			t.Fatalf("%s: %+v", c.line, x.Changes())
		}
		x.Give()
	}
}

// Reads of what is below the floor fail with Past, and tell no part: P17.1.
func TestPast(t *testing.T) {
	s := world(t)
	s.Vacuum()
	commit(t, s, "update A/c n=5 ; create A/e")
	for _, line := range []string{"number A/a 1", "number A/a 2", "at 5 A/a", "at 0 A/z", "find 5 A n=1", "find 0 D", "since A 5", "since D 0", "history A/a 5", "history A/z 0"} {
		fails(t, try(t, s, line), 7, api.Past, 0)
		fails(t, try(t, s, "read A/c ; create D/d ; "+line+" ; read A/a"), 7, api.Past, 2)
	}
	a, c := "A/a 3.5.4 (m=x n=1)", "A/c 1.4.0 (n=1 n=2)"
	succeeds(t, try(t, s, "number A/a 3 ; at 6 A/a ; at 6 A/e ; find 6 A n=1 ; since A 6 ; history A/c 6"), 7,
		"found "+a, "found "+a, "missing", "list "+a+" "+c, "list A/c 2.7.4 (n=5) A/e 1.7.4 ()", "list A/c 2.7.4 (n=5)")
}

// What temporary names stand for: P17.1 and P17.4.
func TestTemporaryNames(t *testing.T) {
	s := world(t)
	for line, want := range map[string][]string{
		"create B/x r=*@1 ; create @1 C/c":                                     {"made B/x 1.0.0 (r=*C/c)", "made C/c 1.0.0 ()"},
		"create @x C/c r=*@x r=*@y ; create @y C/d r=*@x":                      {"made C/c 1.0.0 (r=*C/c r=*C/d)", "made C/d 1.0.0 (r=*C/c)"},
		"ensure @x A/d n=9 r=*@x ? n=9":                                        {"made A/d 1.0.0 (n=9 r=*A/d)"},
		"update B/a r=*@x ; ensure @x A/d n=9 ? m=x":                           {"put B/a 2.0.0 (r=*A/a)", "found A/a 3.5.4 (m=x n=1)"},
		"create C/c r=*@x ; ensure @x A/d ? m=x":                               {"made C/c 1.0.0 (r=*A/a)", "found A/a 3.5.4 (m=x n=1)"},
		"ensure @x C/c n=9 ? n=9 ; ensure @y C/d n=9 r=*@q ? n=9":              {"made C/c 1.0.0 (n=9)", "found C/c 1.0.0 (n=9)"},
		"update B/a r=*@y ; ensure @x C/c n=9 ? n=9 ; ensure @y C/d n=9 ? n=9": {"put B/a 2.0.0 (r=*C/c)", "made C/c 1.0.0 (n=9)", "found C/c 1.0.0 (n=9)"},
		"patch A/a n:=*@x m+=*@y n==*C/d ; create @y C/c ; create @x C/d":      {"put A/a 4.0.0 (m=x m=*C/c n=*C/d)", "made C/c 1.0.0 ()", "made C/d 1.0.0 ()"},
		"patch B/a r==*@x r-=*@x ; ensure @x A/d ? m=x":                        {"put B/a 2.0.0 ()", "found A/a 3.5.4 (m=x n=1)"},
		"create C/c n=@x n=*@ n=*@x- n=x*@x n=**@x ; create @x C/d":            {"made C/c 1.0.0 (n=@x n=*@ n=*@x- n=x*@x n=**@x)", "made C/d 1.0.0 ()"},
		"create @x C/c n=*@x- ; search C n=*@x-":                               {"made C/c 1.0.0 (n=*@x-)", "list C/c 1.0.0 (n=*@x-)"},
	} {
		got := try(t, s, line)
		if got.Status != api.Success || !slices.Equal(shown(got.Replies), want) {
			t.Errorf("%s: status %d at %d, %q, not %q", line, got.Status, got.At, shown(got.Replies), want)
		}
	}
	// A name is bound by a create or an ensure of the same request alone.
	fails(t, try(t, s, "create @x C/c ; update B/a r=*@X"), 6, api.Unfit, 1)
	commit(t, s, "create @x C/c")
	fails(t, try(t, s, "update B/a r=*@x"), 7, api.Unfit, 0)
}

// What an ensure finds among those ahead of it: P17.1.
func TestEnsuresAhead(t *testing.T) {
	s := world(t)
	made := func(id, v string) string { return "made C/" + id + " 1.0.0 (" + v + ")" }
	for line, want := range map[string][]string{
		"ensure C/a n=1 ? n=1 ; ensure C/b n=1 ? n=1":                        {made("a", "n=1"), "found C/a 1.0.0 (n=1)"},
		"ensure C/a n=1 ? n=1 ; ensure C/b n=1 ? n=1 ; ensure C/c n=1 ? n=1": {made("a", "n=1"), "found C/a 1.0.0 (n=1)", "found C/a 1.0.0 (n=1)"},
		"ensure C/a n=1 ? n=1 ; ensure C/b n=2 ? n=2":                        {made("a", "n=1"), made("b", "n=2")},
		"ensure C/a n=1 ? n=1 ; ensure D/b n=1 ? n=1":                        {made("a", "n=1"), "made D/b 1.0.0 (n=1)"},
		"ensure C/a n=1 ? n=2 ; ensure C/b n=2 ? n=1":                        {made("a", "n=1"), "found C/a 1.0.0 (n=1)"},
		"ensure C/a n=2 ? n=1 ; ensure C/b n=1 ? n=1":                        {made("a", "n=2"), made("b", "n=1")},
		"create C/a n=1 ; ensure C/b n=1 ? n=1":                              {made("a", "n=1"), made("b", "n=1")},
		"update C/a n=1 ; ensure C/b n=1 ? n=1":                              {made("a", "n=1"), made("b", "n=1")},
		"ensure @x C/a r=*@x ? r=*@x ; ensure C/b ? r=*@x":                   {made("a", "r=*C/a"), "found C/a 1.0.0 (r=*C/a)"},
		"ensure @x C/a r=*@x ? r? ; ensure C/b ? r=*C/a":                     {made("a", "r=*C/a"), made("b", "")},
		"ensure A/d n=9 ? m=x ; ensure A/e n=9 ? n=9":                        {"found A/a 3.5.4 (m=x n=1)", "made A/e 1.0.0 (n=9)"},
		"delete A/a ; ensure A/e n=1 ? m=x":                                  {"dropped A/a 4.0.0 (not live)", "made A/e 1.0.0 (n=1)"},
		"delete A/a ; ensure A/e n=1 ? n=1":                                  {"dropped A/a 4.0.0 (not live)", "found A/c 1.4.0 (n=1 n=2)"},
		"patch A/a m~ ; ensure A/e n=1 ? m=x":                                {"put A/a 4.0.0 (n=1)", "found A/a 3.5.4 (m=x n=1)"},
		"ensure A/e ? m=x ; update A/a":                                      {"found A/a 3.5.4 (m=x n=1)", "put A/a 4.0.0 ()"},
		"ensure C/b n=1 ? n=1 ; read C/b ; ensure C/a n=1 ? n=1 ; read C/a":  {made("b", "n=1"), "found C/b 1.0.0 (n=1)", "found C/b 1.0.0 (n=1)", "missing"},
	} {
		got := try(t, s, line)
		if got.Status != api.Success || !slices.Equal(shown(got.Replies), want) {
			t.Errorf("%s: status %d at %d, %q, not %q", line, got.Status, got.At, shown(got.Replies), want)
		}
	}
	fails(t, try(t, s, "ensure C/a n=1 ? n=1 ; ensure C/b n=2 ? n=2 ; ensure C/c ?"), 6, api.Several, 2)
	fails(t, try(t, s, "ensure A/d n=7 ? n=7 ; ensure A/e ? m=x ; ensure A/f ? n!2"), 6, api.Several, 2)
	// The key that is there, and the ensure of it that is to be made, are two.
	fails(t, try(t, s, "ensure A/a n=7 ? n=7 ; ensure A/d ? n!2"), 6, api.Several, 1)
}
