package op

import (
	"slices"
	"strings"
	"testing"

	"folio/api"
)

func one(name string, texts ...string) api.Field { return api.Field{Name: name, Texts: texts} }

func row(l ...api.Field) []api.Field { return l }

func term(field string, op int, text string) api.Term {
	return api.Term{Field: field, Op: op, Text: text}
}

func all(l ...api.Term) []api.Term { return l }

func edit(kind int, field, text string) api.Edit {
	return api.Edit{Kind: kind, Field: field, Text: text}
}

func todo(l ...api.Edit) []api.Edit { return l }

func at(kind, id string) api.Key { return api.Key{Type: kind, ID: id} }

func request(l ...api.Entry) api.Request { return api.Request{Entries: l} }

func onceOnly(l ...api.Entry) api.Request { return api.Request{Once: true, Entries: l} }

// alike says whether two requests have the same content, spelt out; a list that is nil and an empty one are alike.
func alike(a, b api.Request) bool {
	return a.Once == b.Once && slices.EqualFunc(a.Entries, b.Entries, func(x, y api.Entry) bool {
		values := slices.EqualFunc(x.Value, y.Value, func(f, g api.Field) bool {
			return f.Name == g.Name && slices.Equal(f.Texts, g.Texts)
		})
		return values && x.Kind == y.Kind && x.Temp == y.Temp && x.Key.Type == y.Key.Type && x.Key.ID == y.Key.ID && x.If == y.If &&
			slices.Equal(x.Edits, y.Edits) && slices.Equal(x.Pred, y.Pred) && x.Stamp == y.Stamp && x.Number == y.Number
	})
}

// lined is a request that may be, with its line.
type lined struct {
	s string
	r api.Request
}

// examples are requests of all kinds with their lines, at the edges of what may be too.
func examples() []lined {
	a, p1 := at("A", "a"), at("Patient", "p1")
	x := api.Entry{Kind: api.EnRead, Key: a}
	longID := at(strings.Repeat("T", api.MaxName), strings.Repeat("-", api.MaxName))
	longName := "f" + strings.Repeat("9", api.MaxName-1)
	longText := strings.Repeat("a", api.MaxText)
	wide, wideLine := wideValue(api.MaxFields)
	deep := row(one("a", "1", "2", "3", "4", "5", "6", "7", "8"))
	terms, termsLine := manyTerms(api.MaxTerms)
	edits, editsLine := manyEdits(api.MaxEdits)
	return []lined{
		{"create @x Patient/p1 name=Ann", request(api.Entry{Kind: api.EnCreate, Temp: "x", Key: p1, Value: row(one("name", "Ann"))})},
		{"once update Patient/p1 if 2 name=Bo ; search Patient name^A", onceOnly(
			api.Entry{Kind: api.EnUpdate, Key: p1, If: 2, Value: row(one("name", "Bo"))},
			api.Entry{Kind: api.EnSearch, Key: at("Patient", ""), Pred: all(term("name", api.OpBegins, "A"))})},
		{"ensure Patient/p1 id=7 ? id=7", request(api.Entry{Kind: api.EnEnsure, Key: p1, Value: row(one("id", "7")), Pred: all(term("id", api.OpIs, "7"))})},
		{"create Patient/p1", request(api.Entry{Kind: api.EnCreate, Key: p1})},
		{"create @x Patient/p1", request(api.Entry{Kind: api.EnCreate, Temp: "x", Key: p1})},
		{"create @" + strings.Repeat("0", api.MaxName) + " A/a", request(api.Entry{Kind: api.EnCreate, Temp: strings.Repeat("0", api.MaxName), Key: a})},
		{"create A/a a=1 a= b=a%20b%3b", request(api.Entry{Kind: api.EnCreate, Key: a, Value: row(one("a", "1", ""), one("b", "a b;"))})},
		{"create A/a if=1", request(api.Entry{Kind: api.EnCreate, Key: a, Value: row(one("if", "1"))})},
		{"create " + longID.Type + "/" + longID.ID + " " + longName + "=" + longText, request(api.Entry{Kind: api.EnCreate, Key: longID, Value: row(one(longName, longText))})},
		{"create A/a " + wideLine, request(api.Entry{Kind: api.EnCreate, Key: a, Value: wide})},
		{"create A/a a=1 a=2 a=3 a=4 a=5 a=6 a=7 a=8", request(api.Entry{Kind: api.EnCreate, Key: a, Value: deep})},
		{"ensure A/a ?", request(api.Entry{Kind: api.EnEnsure, Key: a})},
		{"ensure @1 A/a ?", request(api.Entry{Kind: api.EnEnsure, Temp: "1", Key: a})},
		{"ensure A/a a=1 ?", request(api.Entry{Kind: api.EnEnsure, Key: a, Value: row(one("a", "1"))})},
		{"ensure A/a ? a? b-", request(api.Entry{Kind: api.EnEnsure, Key: a, Pred: all(term("a", api.OpHas, ""), term("b", api.OpLacks, ""))})},
		{"ensure @Xy9 A/a a=1 b=2 ? a=1 a! a<%3f b>1", request(api.Entry{Kind: api.EnEnsure, Temp: "Xy9", Key: a,
			Value: row(one("a", "1"), one("b", "2")), Pred: all(term("a", api.OpIs, "1"), term("a", api.OpNot, ""), term("a", api.OpBelow, "?"), term("b", api.OpAbove, "1"))})},
		{"update A/a", request(api.Entry{Kind: api.EnUpdate, Key: a})},
		{"update A/a if 1", request(api.Entry{Kind: api.EnUpdate, Key: a, If: 1})},
		{"update A/a if 999999999 a=1", request(api.Entry{Kind: api.EnUpdate, Key: a, If: 999999999, Value: row(one("a", "1"))})},
		{"update A/a a=1", request(api.Entry{Kind: api.EnUpdate, Key: a, Value: row(one("a", "1"))})},
		{"update A/a if 10 if=10", request(api.Entry{Kind: api.EnUpdate, Key: a, If: 10, Value: row(one("if", "10"))})},
		{"patch A/a a~", request(api.Entry{Kind: api.EnPatch, Key: a, Edits: todo(edit(api.EdWipe, "a", ""))})},
		{"patch A/a if 1 a~ b+=x", request(api.Entry{Kind: api.EnPatch, Key: a, If: 1, Edits: todo(edit(api.EdWipe, "a", ""), edit(api.EdAdd, "b", "x"))})},
		{"patch A/a b:=1 a-=%20 a==2 b:=1", request(api.Entry{Kind: api.EnPatch, Key: a,
			Edits: todo(edit(api.EdSet, "b", "1"), edit(api.EdDrop, "a", " "), edit(api.EdTest, "a", "2"), edit(api.EdSet, "b", "1"))})},
		{"patch A/a " + editsLine, request(api.Entry{Kind: api.EnPatch, Key: a, Edits: edits})},
		{"delete A/a", request(api.Entry{Kind: api.EnDelete, Key: a})},
		{"delete A/a if 7", request(api.Entry{Kind: api.EnDelete, Key: a, If: 7})},
		{"read A/a", request(x)},
		{"once read A/a", onceOnly(x)},
		{"number A/a 3", request(api.Entry{Kind: api.EnNumber, Key: a, Number: 3})},
		{"number A/a 0", request(api.Entry{Kind: api.EnNumber, Key: a})},
		{"number A/a 999999999", request(api.Entry{Kind: api.EnNumber, Key: a, Number: 999999999})},
		{"search Patient", request(api.Entry{Kind: api.EnSearch, Key: at("Patient", "")})},
		{"search A " + termsLine, request(api.Entry{Kind: api.EnSearch, Key: at("A", ""), Pred: terms})},
		{"history A/a 0", request(api.Entry{Kind: api.EnHistory, Key: a})},
		{"history A/a 4294967296", request(api.Entry{Kind: api.EnHistory, Key: a, Stamp: 1 << 32})},
		{"since Patient 4", request(api.Entry{Kind: api.EnSince, Key: at("Patient", ""), Stamp: 4})},
		{"since A 18446744073709551615", request(api.Entry{Kind: api.EnSince, Key: at("A", ""), Stamp: api.MaxStamp})},
		{"at 5 A/a", request(api.Entry{Kind: api.EnAt, Key: a, Stamp: 5})},
		{"at 0 A/a", request(api.Entry{Kind: api.EnAt, Key: a})},
		{"find 5 Patient", request(api.Entry{Kind: api.EnFind, Key: at("Patient", ""), Stamp: 5})},
		{"find 18446744073709551615 A a=1", request(api.Entry{Kind: api.EnFind, Key: at("A", ""), Stamp: api.MaxStamp, Pred: all(term("a", api.OpIs, "1"))})},
		{"read A/a ; read A/a", request(x, x)},
		{"once " + strings.Repeat("read A/a ; ", api.MaxEntries-1) + "read A/a", onceOnly(slices.Repeat([]api.Entry{x}, api.MaxEntries)...)},
	}
}

// wideValue is a normal value (but for n above MaxFields) of n fields, and its line.
func wideValue(n int) ([]api.Field, string) {
	var v []api.Field
	var words []string
	for i := range n {
		name := "f" + string(rune('a'+i))
		v = append(v, one(name, "x"))
		words = append(words, name+"=x")
	}
	return v, strings.Join(words, " ")
}

// manyTerms is a normal predicate (but for n above MaxTerms) of n terms, and its line.
func manyTerms(n int) ([]api.Term, string) {
	var p []api.Term
	var words []string
	for i := range n {
		text := string(rune('a' + i))
		p = append(p, term("a", api.OpNot, text))
		words = append(words, "a!"+text)
	}
	return p, strings.Join(words, " ")
}

// manyEdits are n edits, and their line.
func manyEdits(n int) ([]api.Edit, string) {
	var l []api.Edit
	var words []string
	for i := range n {
		text := string(rune('z' - i))
		l = append(l, edit(api.EdAdd, "a", text))
		words = append(words, "a+="+text)
	}
	return l, strings.Join(words, " ")
}

// TestWrites is P16.1 of Writes: the Kind alone says it.
func TestWrites(t *testing.T) {
	writing := map[int]bool{api.EnCreate: true, api.EnEnsure: true, api.EnUpdate: true, api.EnPatch: true, api.EnDelete: true}
	for kind := -3; kind <= 20; kind++ {
		for _, e := range []api.Entry{{}, {Temp: "x", Key: at("A", "a"), If: 1, Value: row(one("a")), Edits: todo(edit(0, "", "")), Pred: all(term("", 0, "")), Stamp: 1, Number: 1}} {
			e.Kind = kind
			if Writes(e) != writing[kind] {
				t.Errorf("Writes(%+v): %v", e, Writes(e))
			}
		}
	}
	for _, kind := range []int{1 << 32, 1<<32 + 1, -1 << 63, 1<<63 - 1, -api.EnCreate, 257} {
		if Writes(api.Entry{Kind: kind}) {
			t.Errorf("Writes of Kind %d", kind)
		}
	}
}

// others are requests unlike each other, each by one thing; some of them may not be.
func others() []api.Request {
	e := api.Entry{Kind: 1, Temp: "x", Key: at("A", "a"), If: 1, Value: row(one("a", "1", "2"), one("b", "3")), Edits: todo(edit(1, "a", "x"), edit(2, "b", "y")),
		Pred: all(term("a", 1, "x"), term("b", 2, "y")), Stamp: 1, Number: 1}
	l := []api.Request{{}, {Once: true}, request(api.Entry{}), request(api.Entry{}, api.Entry{}), request(e), onceOnly(e), request(e, e), request(e, api.Entry{}), request(api.Entry{}, e)}
	for _, change := range []func(e *api.Entry){
		func(e *api.Entry) { e.Kind = 2 },
		func(e *api.Entry) { e.Kind = -1 },
		func(e *api.Entry) { e.Temp = "" },
		func(e *api.Entry) { e.Temp = "X" },
		func(e *api.Entry) { e.Key.Type = "B" },
		func(e *api.Entry) { e.Key.ID = "b" },
		func(e *api.Entry) { e.Key = at("a", "A") },
		func(e *api.Entry) { e.If = 0 },
		func(e *api.Entry) { e.If = -1 },
		func(e *api.Entry) { e.Value = nil },
		func(e *api.Entry) { e.Value = row(one("a", "1", "2")) },
		func(e *api.Entry) { e.Value = row(one("a", "1", "2"), one("b", "4")) },
		func(e *api.Entry) { e.Value = row(one("a", "1", "2"), one("c", "3")) },
		func(e *api.Entry) { e.Value = row(one("a", "2", "1"), one("b", "3")) },
		func(e *api.Entry) { e.Value = row(one("a", "1"), one("b", "3")) },
		func(e *api.Entry) { e.Value = row(one("b", "3"), one("a", "1", "2")) },
		func(e *api.Entry) { e.Value = row(one("a", "1"), one("a", "2"), one("b", "3")) },
		func(e *api.Entry) { e.Edits = nil },
		func(e *api.Entry) { e.Edits = todo(edit(1, "a", "x")) },
		func(e *api.Entry) { e.Edits = todo(edit(2, "b", "y"), edit(1, "a", "x")) },
		func(e *api.Entry) { e.Edits = todo(edit(2, "a", "x"), edit(2, "b", "y")) },
		func(e *api.Entry) { e.Edits = todo(edit(1, "b", "x"), edit(2, "b", "y")) },
		func(e *api.Entry) { e.Edits = todo(edit(1, "a", "y"), edit(2, "b", "y")) },
		func(e *api.Entry) { e.Pred = nil },
		func(e *api.Entry) { e.Pred = all(term("a", 1, "x")) },
		func(e *api.Entry) { e.Pred = all(term("b", 2, "y"), term("a", 1, "x")) },
		func(e *api.Entry) { e.Pred = all(term("b", 1, "x"), term("b", 2, "y")) },
		func(e *api.Entry) { e.Pred = all(term("a", 2, "x"), term("b", 2, "y")) },
		func(e *api.Entry) { e.Pred = all(term("a", 1, "y"), term("b", 2, "y")) },
		func(e *api.Entry) { e.Stamp = 0 },
		func(e *api.Entry) { e.Stamp = 1 << 63 },
		func(e *api.Entry) { e.Number = 0 },
		func(e *api.Entry) { e.Number = 1 << 40 },
	} {
		other := e
		change(&other)
		l = append(l, request(other), request(e, other), request(other, e))
	}
	return l
}

// TestEqual is P16.1 of Equal: each of these is equal to itself and to a copy of it alone.
func TestEqual(t *testing.T) {
	l := others()
	for i, a := range l {
		for j, b := range l {
			if Equal(a, copied(b)) != (i == j) {
				t.Errorf("Equal(%+v, %+v): %v", a, b, Equal(a, b))
			}
		}
	}
	for i, a := range examples() {
		for j, b := range examples() {
			if Equal(a.r, b.r) != (i == j) {
				t.Errorf("Equal of %q and %q: %v", a.s, b.s, Equal(a.r, b.r))
			}
		}
	}
}

// TestEmptyLists is R4: no elements, nil or not.
func TestEmptyLists(t *testing.T) {
	a := request(api.Entry{Kind: api.EnRead, Key: at("A", "a")})
	b := request(api.Entry{Kind: api.EnRead, Key: at("A", "a"), Value: row(), Edits: todo(), Pred: all()})
	if !Equal(a, b) || !Equal(b, a) || !May(b) {
		t.Error("an empty list isn't as good as none")
	}
	if s, e := Print(b); s != "read A/a" || e != api.OK {
		t.Errorf("Print: %q, %v", s, e)
	}
	if !Equal(api.Request{}, api.Request{Entries: []api.Entry{}}) || May(api.Request{Entries: []api.Entry{}}) {
		t.Error("no entries, nil or not, are alike, and may not be")
	}
	x := request(api.Entry{Value: row(one("a"))})
	y := request(api.Entry{Value: row(api.Field{Name: "a", Texts: []string{}})})
	if !Equal(x, y) || !Equal(y, x) {
		t.Error("no texts, nil or not, are alike")
	}
}
