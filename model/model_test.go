package model

import (
	"slices"
	"strconv"
	"strings"
	"testing"

	"folio/api"
	"folio/op"
	"folio/value"
)

func key(typ, id string) api.Key { return api.Key{Type: typ, ID: id} }

func one(name string, texts ...string) api.Field { return api.Field{Name: name, Texts: texts} }

// parsed is the request of a line.
func parsed(t *testing.T, line string) api.Request {
	t.Helper()
	r, e := op.Parse(line)
	if e != api.OK {
		t.Fatalf("%.300q: %v", line, e)
	}
	return r
}

// show is a find in words: its key with its version's number, stamp, tick and value.
func show(f api.Found) string {
	v := f.Version
	line, _ := value.Print(v.Value)
	if !v.Live {
		line = "not live"
	}
	return f.Key.Type + "/" + f.Key.ID + " " + strconv.Itoa(v.Number) + "." + strconv.FormatUint(v.Stamp, 10) + "." + strconv.FormatInt(v.Tick, 10) + " (" + line + ")"
}

// shown is a reply in words.
func shown(r api.Reply) string {
	words := []string{strings.Split("nothing found made put dropped missing deleted list", " ")[r.Kind]}
	for _, f := range r.List {
		words = append(words, show(f))
	}
	return strings.Join(words, " ")
}

func allShown(l []api.Reply) []string {
	var words []string
	for _, r := range l {
		words = append(words, shown(r))
	}
	return words
}

// succeeds fails unless a line, done with a stamp and a tick, is Success with these replies; put is the stamp that the answer says.
func succeeds(t *testing.T, m *Model, line string, stamp uint64, tick int64, put uint64, replies ...string) {
	t.Helper()
	a, e := m.Do(parsed(t, line), stamp, tick)
	if put == 0 {
		tick = 0
	}
	if e != api.OK || a.Status != api.Success || a.At != 0 || a.Snap != 0 || a.Tries != 0 || a.Stamp != put || a.Tick != tick {
		t.Errorf("%s: %v, %+v", line, e, a)
	}
	if got := allShown(a.Replies); !slices.Equal(got, replies) {
		t.Errorf("%s: %q, not %q", line, got, replies)
	}
}

// fails fails unless a line has a status and a place, and nothing besides.
func fails(t *testing.T, m *Model, line string, status, at int) {
	t.Helper()
	for _, stamp := range []uint64{0, 1, 50, api.MaxStamp} {
		a, e := m.Do(parsed(t, line), stamp, 7)
		if e != api.OK || !sameAnswer(a, api.Answer{Status: status, At: at}) {
			t.Errorf("%s: %v, %+v, not status %d at %d", line, e, a, status, at)
		}
	}
}

// The chapter's examples: P21.1.
func TestExamples(t *testing.T) {
	m := New()
	succeeds(t, m, "create A/a n=1", 5, 0, 5, "made A/a 1.5.0 (n=1)")
	succeeds(t, m, "create B/b n=2", 3, 1, 3, "made B/b 1.3.1 (n=2)")
	succeeds(t, m, "since B 3", 0, 0, 0, "list")
	succeeds(t, m, "since B 2", 0, 0, 0, "list B/b 1.3.1 (n=2)")
	if a, e := m.Do(parsed(t, "update A/a n=2"), 5, 0); e != api.ErrOld || !sameAnswer(a, api.Answer{}) {
		t.Error(a, e)
	}
	succeeds(t, m, "at 4 A/a", 0, 0, 0, "missing")
	fails(t, m, "create A/a", api.Exists, 0)
	if m.Count() != 2 {
		t.Error(m.Count())
	}
}

// world is a model whose stamps don't rise: A/a number 3 (n=1), A/b deleted, A/c number 1 (n=1 n=2), B/a number 1 (r=*A/a).
func world(t *testing.T) *Model {
	t.Helper()
	m := New()
	for _, c := range []struct {
		line  string
		stamp uint64
		tick  int64
	}{
		{"create A/a n=0 ; create A/b n=1", 10, 4},
		{"create B/a r=*A/a", 3, 9},
		{"update A/a n=3", 40, 2},
		{"delete A/b", 20, 5},
		{"create A/c n=1 n=2", 40, -1},
		{"patch A/a n:=1 m:=x", 50, 2},
	} {
		if a, e := m.Do(parsed(t, c.line), c.stamp, c.tick); e != api.OK || a.Status != api.Success || a.Stamp != c.stamp || a.Tick != c.tick {
			t.Fatal(c.line, a, e)
		}
	}
	return m
}

// What each kind of entry does when it doesn't fail: P21.1.
func TestReplies(t *testing.T) {
	a, c, b := "A/a 3.50.2 (m=x n=1)", "A/c 1.40.-1 (n=1 n=2)", "B/a 1.3.9 (r=*A/a)"
	for line, want := range map[string][]string{
		"create A/d n=7 m=8":           {"made A/d 1.60.6 (m=8 n=7)"},
		"create A/d":                   {"made A/d 1.60.6 ()"},
		"create A/b n=2":               {"made A/b 3.60.6 (n=2)"},
		"ensure A/d n=9 ? n=9":         {"made A/d 1.60.6 (n=9)"},
		"ensure A/b n=9 ? n=9":         {"made A/b 3.60.6 (n=9)"},
		"ensure A/d n=9 ? m?":          {"found " + a},
		"ensure A/a n=9 ? m?":          {"found " + a},
		"ensure A/a n=9 r=*@q ? m?":    {"found " + a},
		"ensure B/z ?":                 {"found " + b},
		"ensure C/z ?":                 {"made C/z 1.60.6 ()"},
		"update A/a n=2":               {"put A/a 4.60.6 (n=2)"},
		"update A/a if 3 n=2":          {"put A/a 4.60.6 (n=2)"},
		"update A/a":                   {"put A/a 4.60.6 ()"},
		"update A/b n=2":               {"made A/b 3.60.6 (n=2)"},
		"update A/d n=2":               {"made A/d 1.60.6 (n=2)"},
		"patch A/a n+=2 m~":            {"put A/a 4.60.6 (n=1 n=2)"},
		"patch A/a if 3 n==1 n:=4":     {"put A/a 4.60.6 (m=x n=4)"},
		"patch A/a n-=1 m~":            {"put A/a 4.60.6 ()"},
		"delete A/a":                   {"dropped A/a 4.60.6 (not live)"},
		"delete A/a if 3":              {"dropped A/a 4.60.6 (not live)"},
		"read A/a":                     {"found " + a},
		"read A/b":                     {"deleted A/b 2.20.5 (not live)"},
		"read A/d":                     {"missing"},
		"number A/a 1":                 {"found A/a 1.10.4 (n=0)"},
		"number A/a 3":                 {"found " + a},
		"number A/b 2":                 {"deleted A/b 2.20.5 (not live)"},
		"number A/a 4":                 {"missing"},
		"number A/a 0":                 {"missing"},
		"number A/d 0":                 {"missing"},
		"number A/d 1":                 {"missing"},
		"number A/a 999999999":         {"missing"},
		"search A":                     {"list " + a + " " + c},
		"search A n=2":                 {"list " + c},
		"search A n=9":                 {"list"},
		"search D":                     {"list"},
		"history A/a 0":                {"list A/a 1.10.4 (n=0) A/a 2.40.2 (n=3) " + a},
		"history A/a 9":                {"list A/a 1.10.4 (n=0) A/a 2.40.2 (n=3) " + a},
		"history A/a 10":               {"list A/a 2.40.2 (n=3) " + a},
		"history A/a 49":               {"list " + a},
		"history A/a 50":               {"list"},
		"history A/b 10":               {"list A/b 2.20.5 (not live)"},
		"history A/d 0":                {"list"},
		"since A 0":                    {"list A/a 1.10.4 (n=0) A/b 1.10.4 (n=1) A/b 2.20.5 (not live) A/a 2.40.2 (n=3) " + c + " " + a},
		"since A 20":                   {"list A/a 2.40.2 (n=3) " + c + " " + a},
		"since A 40":                   {"list " + a},
		"since A 18446744073709551615": {"list"},
		"since B 2":                    {"list " + b},
		"since B 3":                    {"list"},
		"at 9 A/b":                     {"missing"},
		"at 10 A/b":                    {"found A/b 1.10.4 (n=1)"},
		"at 19 A/b":                    {"found A/b 1.10.4 (n=1)"},
		"at 20 A/b":                    {"deleted A/b 2.20.5 (not live)"},
		"at 0 A/b":                     {"missing"},
		"at 3 B/a":                     {"found " + b},
		"at 18446744073709551615 A/a":  {"found " + a},
		"find 10 A n=1":                {"list A/b 1.10.4 (n=1)"},
		"find 39 A":                    {"list A/a 1.10.4 (n=0)"},
		"find 40 A":                    {"list A/a 2.40.2 (n=3) " + c},
		"find 50 A n=1":                {"list " + a + " " + c},
		"find 0 A":                     {"list"},
		"find 9 D":                     {"list"},
		"create A/d ; read A/d ; search A ; number A/d 1 ; history A/d 0": {"made A/d 1.60.6 ()", "found A/d 1.60.6 ()", "list " + a + " " + c + " A/d 1.60.6 ()", "missing", "list"},
		"delete A/a ; at 99 A/a ; find 99 A ; search A ; read A/a":        {"dropped A/a 4.60.6 (not live)", "found " + a, "list " + a + " " + c, "list " + c, "deleted A/a 4.60.6 (not live)"},
		"read A/c ; delete A/c ; since A 40 ; number A/c 2":               {"deleted A/c 2.60.6 (not live)", "dropped A/c 2.60.6 (not live)", "list " + a, "missing"},
		"once search A ; update A/a0 n=1":                                 {"list " + a + " A/a0 1.60.6 (n=1) " + c, "made A/a0 1.60.6 (n=1)"},
	} {
		m := world(t)
		put, n := uint64(0), m.Count()
		for _, w := range want {
			if strings.HasPrefix(w, "made") || strings.HasPrefix(w, "put") || strings.HasPrefix(w, "dropped") {
				put, n = 60, n+1
			}
		}
		succeeds(t, m, line, 60, 6, put, want...)
		if m.Count() != n {
			t.Errorf("%s: %d versions, not %d", line, m.Count(), n)
		}
	}
}

// By what each kind of entry fails, and where, if several entries would: P21.1 and P21.3.
func TestFailures(t *testing.T) {
	m := world(t)
	was := dump(m)
	for _, c := range []struct {
		line       string
		status, at int
	}{
		{"create A/a", api.Exists, 0},
		{"create A/a r=*@q", api.Exists, 0},
		{"create A/b r=*@q", api.Unfit, 0},
		{"ensure A/a n=7 ? n=7", api.Exists, 0},
		{"ensure A/a r=*@q ? n=7", api.Exists, 0},
		{"ensure A/d r=*@q ? n=7", api.Unfit, 0},
		{"ensure A/d ?", api.Several, 0},
		{"ensure A/d n=5 ? n=1", api.Several, 0},
		{"update A/b if 2", api.Absent, 0},
		{"update A/d if 1", api.Absent, 0},
		{"update A/a if 2", api.Mismatch, 0},
		{"update A/a if 4", api.Mismatch, 0},
		{"update A/a if 2 r=*@q", api.Mismatch, 0},
		{"update A/d if 2 r=*@q", api.Absent, 0},
		{"update A/a r=*@q", api.Unfit, 0},
		{"update A/a if 3 r=*@q", api.Unfit, 0},
		{"patch A/b n~", api.Absent, 0},
		{"patch A/d n~", api.Absent, 0},
		{"patch A/d if 2 r:=*@q", api.Absent, 0},
		{"patch A/a if 2 n~", api.Mismatch, 0},
		{"patch A/a if 2 r:=*@q", api.Mismatch, 0},
		{"patch A/a r:=*@q", api.Unfit, 0},
		{"patch A/a n:=1 r+=*@q r~", api.Unfit, 0},
		{"patch A/a n-=3", api.Unfit, 0},
		{"patch A/a n==3", api.Unfit, 0},
		{"patch A/a n+=" + strings.Repeat("1 n+=", 7) + "8", api.Unfit, 0},
		{"delete A/b", api.Absent, 0},
		{"delete A/d", api.Absent, 0},
		{"delete A/b if 2", api.Absent, 0},
		{"delete A/a if 2", api.Mismatch, 0},
		{"update A/a n=1 ; delete A/a", api.Malformed, 0},
		{"read A/c ; create @x A/d ; create @x A/e", api.Malformed, 0},
		// The first step that fails, not the first entry.
		{"read A/a ; patch A/a n==3 ; update A/c if 7 ; create B/a ; ensure A/d ? ; delete A/q", api.Absent, 5},
		{"read A/a ; patch A/a n==3 ; update A/c if 7 ; create B/a ; ensure A/d ?", api.Several, 4},
		{"read A/a ; patch A/a n==3 ; update A/c if 7 ; create B/a", api.Exists, 3},
		{"read A/a ; patch A/a n==3 ; update A/c if 7", api.Mismatch, 2},
		{"read A/a ; patch A/a n==3", api.Unfit, 1},
		{"create A/d ; update A/c if 7 ; create A/a", api.Exists, 2},
		{"ensure A/a n=7 ? n=7 ; create A/c", api.Exists, 0},
		{"create A/c ; ensure A/a n=7 ? n=7", api.Exists, 0},
		{"create A/c ; ensure A/d ?", api.Several, 1},
		{"delete A/a ; update B/a n=1 ; create C/c ; patch A/c n==9", api.Unfit, 3},
	} {
		fails(t, m, c.line, c.status, c.at)
		if dump(m) != was {
			t.Fatalf("%s has changed something", c.line)
		}
	}
}

// dump is all that a model tells: each type's live ones, its versions, and how many there are.
func dump(m *Model) string {
	words := []string{strconv.Itoa(m.Count())}
	for _, typ := range []string{"A", "B", "C", "Z"} {
		for _, f := range m.All(typ) {
			words = append(words, show(f))
		}
		a, _ := m.Do(api.Request{Entries: []api.Entry{{Kind: api.EnSince, Key: key(typ, "")}}}, 0, 0)
		words = append(words, allShown(a.Replies)...)
	}
	return strings.Join(words, "\n")
}

// What temporary names stand for: P21.1.
func TestTemporaryNames(t *testing.T) {
	for line, want := range map[string][]string{
		"create B/x r=*@1 ; create @1 C/c":                                     {"made B/x 1.60.0 (r=*C/c)", "made C/c 1.60.0 ()"},
		"create @x C/c r=*@x r=*@y ; create @y C/d r=*@x":                      {"made C/c 1.60.0 (r=*C/c r=*C/d)", "made C/d 1.60.0 (r=*C/c)"},
		"ensure @x A/d n=9 r=*@x ? n=9":                                        {"made A/d 1.60.0 (n=9 r=*A/d)"},
		"update B/a r=*@x ; ensure @x A/d n=9 ? m=x":                           {"put B/a 2.60.0 (r=*A/a)", "found A/a 3.50.2 (m=x n=1)"},
		"create C/c r=*@x ; ensure @x A/d ? m=x":                               {"made C/c 1.60.0 (r=*A/a)", "found A/a 3.50.2 (m=x n=1)"},
		"ensure @x C/c n=9 ? n=9 ; ensure @y C/d n=9 r=*@q ? n=9":              {"made C/c 1.60.0 (n=9)", "found C/c 1.60.0 (n=9)"},
		"update B/a r=*@y ; ensure @x C/c n=9 ? n=9 ; ensure @y C/d n=9 ? n=9": {"put B/a 2.60.0 (r=*C/c)", "made C/c 1.60.0 (n=9)", "found C/c 1.60.0 (n=9)"},
		"patch A/a n:=*@x m+=*@y n==*C/d ; create @y C/c ; create @x C/d":      {"put A/a 4.60.0 (m=x m=*C/c n=*C/d)", "made C/c 1.60.0 ()", "made C/d 1.60.0 ()"},
		"patch B/a r==*@x r-=*@x ; ensure @x A/d ? m=x":                        {"put B/a 2.60.0 ()", "found A/a 3.50.2 (m=x n=1)"},
		"create C/c n=@x n=*@ n=*@x- n=x*@x n=**@x ; create @x C/d":            {"made C/c 1.60.0 (n=@x n=*@ n=*@x- n=x*@x n=**@x)", "made C/d 1.60.0 ()"},
		"create @x C/c n=*@x- ; search C n=*@x-":                               {"made C/c 1.60.0 (n=*@x-)", "list C/c 1.60.0 (n=*@x-)"},
	} {
		succeeds(t, world(t), line, 60, 0, 60, want...)
	}
	// A name is bound by a create or an ensure of the same request alone.
	m := world(t)
	fails(t, m, "create @x C/c ; update B/a r=*@X", api.Unfit, 1)
	succeeds(t, m, "create @x C/c", 1, 1, 1, "made C/c 1.1.1 ()")
	fails(t, m, "update B/a r=*@x", api.Unfit, 0)
}

// What an ensure finds among those ahead of it: P21.1.
func TestEnsuresAhead(t *testing.T) {
	made := func(id, v string) string { return "made C/" + id + " 1.60.0 (" + v + ")" }
	for line, want := range map[string][]string{
		"ensure C/a n=1 ? n=1 ; ensure C/b n=1 ? n=1":                        {made("a", "n=1"), "found C/a 1.60.0 (n=1)"},
		"ensure C/a n=1 ? n=1 ; ensure C/b n=1 ? n=1 ; ensure C/c n=1 ? n=1": {made("a", "n=1"), "found C/a 1.60.0 (n=1)", "found C/a 1.60.0 (n=1)"},
		"ensure C/a n=1 ? n=1 ; ensure C/b n=2 ? n=2":                        {made("a", "n=1"), made("b", "n=2")},
		"ensure C/a n=1 ? n=1 ; ensure D/b n=1 ? n=1":                        {made("a", "n=1"), "made D/b 1.60.0 (n=1)"},
		"ensure C/a n=1 ? n=2 ; ensure C/b n=2 ? n=1":                        {made("a", "n=1"), "found C/a 1.60.0 (n=1)"},
		"ensure C/a n=2 ? n=1 ; ensure C/b n=1 ? n=1":                        {made("a", "n=2"), made("b", "n=1")},
		"create C/a n=1 ; ensure C/b n=1 ? n=1":                              {made("a", "n=1"), made("b", "n=1")},
		"update C/a n=1 ; ensure C/b n=1 ? n=1":                              {made("a", "n=1"), made("b", "n=1")},
		"ensure @x C/a r=*@x ? r=*@x ; ensure C/b ? r=*@x":                   {made("a", "r=*C/a"), "found C/a 1.60.0 (r=*C/a)"},
		"ensure @x C/a r=*@x ? r? ; ensure C/b ? r=*C/a":                     {made("a", "r=*C/a"), made("b", "")},
		"ensure A/d n=9 ? m=x ; ensure A/e n=9 ? n=9":                        {"found A/a 3.50.2 (m=x n=1)", "made A/e 1.60.0 (n=9)"},
		"delete A/a ; ensure A/e n=1 ? m=x":                                  {"dropped A/a 4.60.0 (not live)", "made A/e 1.60.0 (n=1)"},
		"delete A/a ; ensure A/e n=1 ? n=1":                                  {"dropped A/a 4.60.0 (not live)", "found A/c 1.40.-1 (n=1 n=2)"},
		"patch A/a m~ ; ensure A/e n=1 ? m=x":                                {"put A/a 4.60.0 (n=1)", "found A/a 3.50.2 (m=x n=1)"},
		"ensure A/e ? m=x ; update A/a":                                      {"found A/a 3.50.2 (m=x n=1)", "put A/a 4.60.0 ()"},
		"ensure C/b n=1 ? n=1 ; read C/b ; ensure C/a n=1 ? n=1 ; read C/a":  {made("b", "n=1"), "found C/b 1.60.0 (n=1)", "found C/b 1.60.0 (n=1)", "missing"},
	} {
		succeeds(t, world(t), line, 60, 0, 60, want...)
	}
	m := world(t)
	fails(t, m, "ensure C/a n=1 ? n=1 ; ensure C/b n=2 ? n=2 ; ensure C/c ?", api.Several, 2)
	fails(t, m, "ensure A/d n=7 ? n=7 ; ensure A/e ? m=x ; ensure A/f ? n!2", api.Several, 2)
	// The key that is there, and the ensure of it that is to be made, are two.
	fails(t, m, "ensure A/a n=7 ? n=7 ; ensure A/d ? n!2", api.Several, 1)
}

// malformed are requests that may not be.
func malformed() []api.Request {
	a := key("A", "a")
	req := func(l ...api.Entry) api.Request { return api.Request{Entries: l} }
	read := api.Entry{Kind: api.EnRead, Key: a}
	return []api.Request{
		{}, {Once: true}, req(api.Entry{}), req(api.Entry{Kind: 13, Key: a}), req(api.Entry{Kind: -1, Key: a}),
		req(api.Entry{Kind: api.EnCreate}), req(api.Entry{Kind: api.EnCreate, Key: key("a", "a")}), req(api.Entry{Kind: api.EnDelete, Key: key("A", "")}),
		req(api.Entry{Kind: api.EnCreate, Key: a, Temp: "-"}), req(api.Entry{Kind: api.EnCreate, Key: a, Value: []api.Field{one("n")}}),
		req(api.Entry{Kind: api.EnUpdate, Key: a, If: -1}), req(api.Entry{Kind: api.EnUpdate, Key: a, If: 1000000000}), req(api.Entry{Kind: api.EnNumber, Key: a, Number: -1}),
		req(api.Entry{Kind: api.EnPatch, Key: a}), req(api.Entry{Kind: api.EnPatch, Key: a, Edits: []api.Edit{{Kind: 9, Field: "n"}}}),
		req(api.Entry{Kind: api.EnSearch, Key: a}), req(api.Entry{Kind: api.EnSince, Key: key("", "")}), req(api.Entry{Kind: api.EnFind, Key: key("A", ""), Pred: []api.Term{{Field: "n", Op: 9}}}),
		req(api.Entry{Kind: api.EnRead, Key: a, Stamp: 1}), req(api.Entry{Kind: api.EnAt, Key: a, Number: 1}), req(slices.Repeat([]api.Entry{read}, api.MaxEntries+1)...),
		req(read, api.Entry{Kind: api.EnDelete, Key: a}, api.Entry{Kind: api.EnDelete, Key: a}, api.Entry{Kind: api.EnRead}),
	}
}

// A request that isn't fit is Malformed, whatever its stamp, and nothing is done: P21.1 and P21.3.
func TestMalformed(t *testing.T) {
	m := world(t)
	was := dump(m)
	for _, r := range malformed() {
		for _, stamp := range []uint64{0, 3, 60, api.MaxStamp} {
			if a, e := m.Do(r, stamp, 3); e != api.OK || !sameAnswer(a, api.Answer{Status: api.Malformed}) || dump(m) != was {
				t.Errorf("%.300v: %v, %v", r, a, e)
			}
		}
	}
}

// Of a nil Model: P21.4.
func TestNil(t *testing.T) {
	var m *Model
	for _, r := range append(malformed(), parsed(t, "create A/a"), parsed(t, "read A/a"), parsed(t, "create A/a ; delete A/a")) {
		for _, stamp := range []uint64{0, 1, api.MaxStamp} {
			if a, e := m.Do(r, stamp, 1); e != api.ErrArg || !sameAnswer(a, api.Answer{}) {
				t.Errorf("%.300v: %v, %v", r, a, e)
			}
		}
	}
	if m.Count() != 0 || len(m.All("A")) != 0 || len(m.All("")) != 0 {
		t.Error("a nil Model")
	}
}
