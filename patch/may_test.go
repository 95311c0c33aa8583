package patch

import (
	"math"
	"slices"
	"strings"
	"testing"

	"folio/api"
)

// The edits by their kinds.
func set(field, text string) api.Edit  { return api.Edit{Kind: api.EdSet, Field: field, Text: text} }
func add(field, text string) api.Edit  { return api.Edit{Kind: api.EdAdd, Field: field, Text: text} }
func drop(field, text string) api.Edit { return api.Edit{Kind: api.EdDrop, Field: field, Text: text} }
func wipe(field string) api.Edit       { return api.Edit{Kind: api.EdWipe, Field: field} }
func test(field, text string) api.Edit { return api.Edit{Kind: api.EdTest, Field: field, Text: text} }

// other is an edit of any kind and text, that may be or not.
func other(kind int, field, text string) api.Edit {
	return api.Edit{Kind: kind, Field: field, Text: text}
}

// edits is a list of edits.
func edits(l ...api.Edit) []api.Edit { return l }

// long is a text of n bytes.
func long(n int) string { return strings.Repeat("t", n) }

// many is n edits, each unlike the others.
func many(n int) []api.Edit {
	var l []api.Edit
	for i := range n {
		l = append(l, set("f"+string(rune('A'+i)), "x"))
	}
	return l
}

// noKinds are numbers that are no kinds.
func noKinds() []int {
	return []int{0, -1, 6, 7, 100, -api.EdSet, -api.EdTest, 1 << 8, 1<<8 + 1, 1<<16 + 1, 1<<32 + 1, math.MaxInt, math.MinInt}
}

// badNames are texts that are no field's names, of which none has a byte that parts words or signs.
func badNames() []string {
	return []string{"", "A", "Ab", "1", "1a", "a.", "a_", "a/b", "a%20", "\u00e4", "a\u00e4", "a\x00", "\xff", "\n", strings.Repeat("a", api.MaxName+1)}
}

// goods are edits that may be.
func goods() [][]api.Edit {
	l := [][]api.Edit{
		nil,
		{},
		edits(set("a", ""), add("a", ""), drop("a", ""), wipe("a"), test("a", "")),
		edits(test("a", "x"), wipe("a"), drop("a", "x"), add("a", "x"), set("a", "x")),
		edits(set("b", "x"), set("a", "x"), set("b", "x")),
		edits(wipe("a"), wipe("a")),
		edits(set("a", long(api.MaxText)), add("a", long(api.MaxText)), drop("a", long(api.MaxText)), test("a", long(api.MaxText))),
		edits(set("a", ":=x"), add("a", "+=x"), drop("a", "-=x"), test("a", "==x"), set("a", "~"), set("a", "a b")),
		edits(wipe(strings.Repeat("a", api.MaxName)), set("z9Z", "1"), test("birthDate", "1970-01-01")),
		many(api.MaxEdits - 1),
		many(api.MaxEdits),
		slices.Repeat(edits(wipe("a")), api.MaxEdits),
	}
	for i := range 256 {
		text := string([]byte{byte(i)})
		l = append(l, edits(set("a", text), add("b", "x"+text), drop("c", text+"x"), test("d", text+text)))
	}
	return l
}

// bad is edits that may not be, and the error.
type bad struct {
	l []api.Edit
	e api.Errno
}

func bads() []bad {
	over := long(api.MaxText + 1)
	l := []bad{
		{many(api.MaxEdits + 1), api.ErrLong},
		{slices.Repeat(edits(wipe("a")), api.MaxEdits+1), api.ErrLong},
		{slices.Repeat(edits(wipe("a")), 10000), api.ErrLong},
		{edits(other(api.EdWipe, "a", "x")), api.ErrArg},
		{edits(other(api.EdWipe, "a", " ")), api.ErrArg},
		{edits(other(api.EdWipe, "a", "\x00")), api.ErrArg},
		{edits(wipe("a"), set("a", "x"), other(api.EdWipe, "b", "y")), api.ErrArg},
		{edits(set("a", over)), api.ErrLong},
		{edits(add("a", over)), api.ErrLong},
		{edits(drop("a", over)), api.ErrLong},
		{edits(test("a", over)), api.ErrLong},
		{edits(set("a", "x"), wipe("b"), add("c", long(1000)), wipe("d")), api.ErrLong},
		{append(many(api.MaxEdits-1), set("a", over)), api.ErrLong},
		// Which error is answered, where more than one would do, wherever they stand: too many, a name, a kind, a text.
		{make([]api.Edit, api.MaxEdits+1), api.ErrLong},
		{append(many(api.MaxEdits), set("A", "x")), api.ErrLong},
		{append(many(api.MaxEdits), other(6, "a", "x")), api.ErrLong},
		{append(edits(set("A", "x"), other(0, "a", "")), many(api.MaxEdits)...), api.ErrLong},
		{make([]api.Edit, api.MaxEdits), api.ErrName},
		{edits(api.Edit{}), api.ErrName},
		{edits(other(6, "a", ""), set("A", "x")), api.ErrName},
		{edits(set("A", "x"), other(6, "a", "")), api.ErrName},
		{edits(other(6, "A", over)), api.ErrName},
		{edits(other(api.EdWipe, "", "x")), api.ErrName},
		{edits(set("a", over), other(api.EdWipe, "a", "x"), wipe("B")), api.ErrName},
		{edits(set("a", over), set("", "")), api.ErrName},
		{edits(set("", ""), set("a", over)), api.ErrName},
		{edits(other(api.EdWipe, "a", over)), api.ErrArg},
		{edits(other(0, "a", over)), api.ErrArg},
		{edits(set("a", over), other(6, "a", "")), api.ErrArg},
		{edits(other(6, "a", ""), set("a", over)), api.ErrArg},
		{edits(set("a", over), other(api.EdWipe, "a", "x")), api.ErrArg},
	}
	for _, s := range append(badNames(), " ", "a b", "a:", "a+", "a-", "a~", "a=", ":", "=") {
		l = append(l, bad{edits(set(s, "x")), api.ErrName}, bad{edits(wipe(s)), api.ErrName})
		l = append(l, bad{edits(wipe("a"), test(s, "x"), wipe("b")), api.ErrName}, bad{edits(drop("a", "x"), add(s, "x")), api.ErrName})
	}
	for _, kind := range noKinds() {
		l = append(l, bad{edits(other(kind, "a", "x")), api.ErrArg}, bad{edits(other(kind, "a", "")), api.ErrArg})
		l = append(l, bad{edits(wipe("a"), other(kind, "b", "x"), wipe("c")), api.ErrArg}, bad{edits(wipe("a"), other(kind, "b", "")), api.ErrArg})
	}
	return l
}

func TestMay(t *testing.T) {
	for _, l := range goods() {
		if e := May(l); e != api.OK {
			t.Errorf("May(%#v): %v", l, e)
		}
	}
	for _, x := range bads() {
		if e := May(x.l); e != x.e {
			t.Errorf("May(%#v): %v; want %v", x.l, e, x.e)
		}
	}
}

// TestMayOfEachPlace: one edit that may not be is found wherever it stands among as many as there may be.
func TestMayOfEachPlace(t *testing.T) {
	for i := range api.MaxEdits {
		for _, x := range []struct {
			edit api.Edit
			e    api.Errno
		}{
			{set("A", "x"), api.ErrName},
			{other(0, "a", ""), api.ErrArg},
			{other(api.EdWipe, "a", "x"), api.ErrArg},
			{set("a", long(api.MaxText+1)), api.ErrLong},
		} {
			l := many(api.MaxEdits)
			l[i] = x.edit
			if e := May(l); e != x.e {
				t.Errorf("May with %#v at %d: %v; want %v", x.edit, i, e, x.e)
			}
		}
	}
}
