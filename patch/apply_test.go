package patch

import (
	"fmt"
	"maps"
	"slices"
	"strings"
	"testing"

	"folio/api"
)

// one is a field of a name and its texts.
func one(name string, texts ...string) api.Field { return api.Field{Name: name, Texts: texts} }

// row is a list of fields.
func row(fields ...api.Field) []api.Field { return fields }

// some is n texts, each unlike the others.
func some(n int) []string {
	var l []string
	for i := range n {
		l = append(l, string(rune('a'+i)))
	}
	return l
}

// wide is n fields with unlike names, rising, of one text each.
func wide(n int) []api.Field {
	var v []api.Field
	for i := range n {
		v = append(v, one("f"+string(rune('A'+i)), "x"))
	}
	return v
}

// full has as much of everything as a normal value may have.
func full() []api.Field {
	var v []api.Field
	for i := range api.MaxFields {
		f := one(strings.Repeat("n", api.MaxName-1) + string(rune('a'+i)))
		for j := range api.MaxTexts {
			f.Texts = append(f.Texts, strings.Repeat(string([]byte{byte(16*i + j)}), api.MaxText))
		}
		v = append(v, f)
	}
	return v
}

// notNormal are values that are not normal.
func notNormal() [][]api.Field {
	return [][]api.Field{
		row(one("a")),
		row(one("a", "x"), api.Field{Name: "b", Texts: []string{}}),
		row(one("b", "x"), one("a", "x")),
		row(one("a", "x"), one("a", "y")),
		row(one("a", "x"), one("A", "x")),
		row(one("", "x")),
		row(one(strings.Repeat("a", api.MaxName+1), "x")),
		row(one("a", some(api.MaxTexts+1)...)),
		row(one("a", long(api.MaxText+1))),
		row(one("a", "x"), one("b", "x", long(api.MaxText+1))),
		wide(api.MaxFields + 1),
	}
}

// sameValue says whether two values are the same, nil or empty.
func sameValue(a, b []api.Field) bool {
	return slices.EqualFunc(a, b, func(f, g api.Field) bool { return f.Name == g.Name && slices.Equal(f.Texts, g.Texts) })
}

// parts are the texts of a value by their names.
type parts map[string][]string

// partsOf is a value as parts.
func partsOf(v []api.Field) parts {
	p := parts{}
	for _, f := range v {
		p[f.Name] = slices.Clone(f.Texts)
	}
	return p
}

// value is parts as a value, and whether it is within the limits.
func (p parts) value() ([]api.Field, bool) {
	var v []api.Field
	fit := len(p) <= api.MaxFields
	for _, name := range slices.Sorted(maps.Keys(p)) {
		v = append(v, one(name, p[name]...))
		fit = fit && len(p[name]) <= api.MaxTexts
	}
	return v, fit
}

// edit does one edit, spelt out as the chapter's table has it.
func (p parts) edit(e api.Edit) api.Errno {
	count := 0
	var left []string
	for _, text := range p[e.Field] {
		if text == e.Text {
			count++
		} else {
			left = append(left, text)
		}
	}
	switch e.Kind {
	case api.EdSet:
		p[e.Field] = []string{e.Text}
	case api.EdAdd:
		p[e.Field] = append(p[e.Field], e.Text)
	case api.EdDrop:
		if count == 0 {
			return api.ErrNone
		}
		p[e.Field] = left
		if len(left) == 0 {
			delete(p, e.Field)
		}
	case api.EdWipe:
		delete(p, e.Field)
	case api.EdTest:
		if count == 0 {
			return api.ErrMatch
		}
	}
	return api.OK
}

// applied is what Apply should answer to a normal value and edits that may be, spelt out.
func applied(v []api.Field, l []api.Edit) ([]api.Field, api.Errno) {
	p := partsOf(v)
	for _, edit := range l {
		if e := p.edit(edit); e != api.OK {
			return nil, e
		}
	}
	got, fit := p.value()
	if !fit {
		return nil, api.ErrLong
	}
	return got, api.OK
}

// applies fails unless Apply answers so.
func applies(t *testing.T, v []api.Field, l []api.Edit, want []api.Field, e api.Errno) {
	t.Helper()
	if got, f := Apply(v, l); !sameValue(got, want) || f != e {
		t.Fatalf("Apply(%q, %#v): %q, %v; want %q, %v", v, l, got, f, want, e)
	}
}

// lists calls f with all lists of up to n of some elements; f must not keep them.
func lists[T any](some []T, n int, f func([]T)) {
	var grow func(l []T)
	grow = func(l []T) {
		f(l)
		if len(l) == n {
			return
		}
		for _, x := range some {
			grow(append(slices.Clip(l), x))
		}
	}
	grow(nil)
}

func TestApplyExamples(t *testing.T) {
	v := row(one("a", "x", "y", "x"), one("b", "1"))
	for _, x := range []struct {
		l    []api.Edit
		want []api.Field
		e    api.Errno
	}{
		{edits(drop("a", "x")), row(one("a", "y"), one("b", "1")), api.OK},
		{edits(set("b", "2"), add("c", "3")), row(one("a", "x", "y", "x"), one("b", "2"), one("c", "3")), api.OK},
		{edits(drop("b", "1")), row(one("a", "x", "y", "x")), api.OK},
		{edits(drop("b", "2")), nil, api.ErrNone},
		{edits(wipe("a"), test("a", "x")), nil, api.ErrMatch},
		{edits(test("a", "y"), wipe("a")), row(one("b", "1")), api.OK},
		{nil, v, api.OK},
		{edits(), v, api.OK},
		// Set.
		{edits(set("a", "z")), row(one("a", "z"), one("b", "1")), api.OK},
		{edits(set("a", "x")), row(one("a", "x"), one("b", "1")), api.OK},
		{edits(set("a", "")), row(one("a", ""), one("b", "1")), api.OK},
		{edits(set("aa", "z")), row(one("a", "x", "y", "x"), one("aa", "z"), one("b", "1")), api.OK},
		{edits(set("aA", "1"), set("aa", "2"), set("a0", "3")), row(one("a", "x", "y", "x"), one("a0", "3"), one("aA", "1"), one("aa", "2"), one("b", "1")), api.OK},
		{edits(set("c", "1"), set("c", "2")), row(one("a", "x", "y", "x"), one("b", "1"), one("c", "2")), api.OK},
		// Add: behind what is there, doubles too.
		{edits(add("a", "x")), row(one("a", "x", "y", "x", "x"), one("b", "1")), api.OK},
		{edits(add("b", ""), add("b", "0")), row(one("a", "x", "y", "x"), one("b", "1", "", "0")), api.OK},
		{edits(add("c", "2"), add("c", "1")), row(one("a", "x", "y", "x"), one("b", "1"), one("c", "2", "1")), api.OK},
		// Drop: the whole text, all that are it, and the order of the others stays.
		{edits(drop("a", "y")), row(one("a", "x", "x"), one("b", "1")), api.OK},
		{edits(drop("a", "x"), drop("a", "y")), row(one("b", "1")), api.OK},
		{edits(drop("a", "x"), drop("a", "x")), nil, api.ErrNone},
		{edits(drop("a", "")), nil, api.ErrNone},
		{edits(drop("a", "X")), nil, api.ErrNone},
		{edits(drop("a", "xy")), nil, api.ErrNone},
		{edits(drop("c", "x")), nil, api.ErrNone},
		{edits(drop("b", "x")), nil, api.ErrNone},
		{edits(add("b", ""), drop("b", "")), v, api.OK},
		{edits(drop("b", "1"), add("b", "2")), row(one("a", "x", "y", "x"), one("b", "2")), api.OK},
		{edits(drop("b", "1"), drop("b", "1")), nil, api.ErrNone},
		{edits(drop("b", "1"), test("b", "1")), nil, api.ErrMatch},
		{edits(drop("b", "1"), wipe("b"), wipe("a")), nil, api.OK},
		// Wipe: of what isn't there nothing.
		{edits(wipe("c")), v, api.OK},
		{edits(wipe("a"), wipe("a")), row(one("b", "1")), api.OK},
		{edits(wipe("a"), wipe("b")), nil, api.OK},
		{edits(wipe("a"), add("a", "x")), row(one("a", "x"), one("b", "1")), api.OK},
		{edits(wipe("a"), drop("a", "x")), nil, api.ErrNone},
		// Test: the whole text, whichever it is.
		{edits(test("a", "x"), test("a", "y"), test("b", "1")), v, api.OK},
		{edits(test("a", "1")), nil, api.ErrMatch},
		{edits(test("b", "")), nil, api.ErrMatch},
		{edits(test("a", "X")), nil, api.ErrMatch},
		{edits(test("c", "")), nil, api.ErrMatch},
		{edits(add("c", ""), test("c", "")), row(one("a", "x", "y", "x"), one("b", "1"), one("c", "")), api.OK},
		{edits(set("a", "q"), test("a", "x")), nil, api.ErrMatch},
		// The first that is refused is told.
		{edits(test("a", "q"), drop("a", "q")), nil, api.ErrMatch},
		{edits(drop("a", "q"), test("a", "q")), nil, api.ErrNone},
		{edits(set("c", "1"), drop("a", "q"), test("a", "q"), wipe("b")), nil, api.ErrNone},
	} {
		applies(t, v, x.l, x.want, x.e)
	}
	applies(t, nil, nil, nil, api.OK)
	applies(t, row(), edits(wipe("a")), nil, api.OK)
	applies(t, nil, edits(add("b", "x"), set("a", "y")), row(one("a", "y"), one("b", "x")), api.OK)
	// Texts are any bytes, and patterns are none: a token's code isn't the text.
	applies(t, row(one("a", "mrn|7", "\xff\x00")), edits(drop("a", "7")), nil, api.ErrNone)
	applies(t, row(one("a", "mrn|7", "\xff\x00")), edits(test("a", "|7")), nil, api.ErrMatch)
	applies(t, row(one("a", "mrn|7", "\xff\x00")), edits(test("a", "\xff\x00"), drop("a", "mrn|7")), row(one("a", "\xff\x00")), api.OK)
}

// TestApplyLimits: what comes out is held to them, not what stands in between.
func TestApplyLimits(t *testing.T) {
	all := some(api.MaxTexts)
	crowd := row(one("a", all...))
	applies(t, crowd, edits(add("a", "z")), nil, api.ErrLong)
	applies(t, crowd, edits(add("a", "z"), drop("a", "a")), row(one("a", append(slices.Clone(all[1:]), "z")...)), api.OK)
	applies(t, crowd, edits(drop("a", "a"), add("a", "z")), row(one("a", append(slices.Clone(all[1:]), "z")...)), api.OK)
	applies(t, crowd, edits(add("a", "z"), set("a", "y")), row(one("a", "y")), api.OK)
	applies(t, crowd, edits(add("a", "z"), wipe("a")), nil, api.OK)
	applies(t, crowd, edits(add("a", "z"), test("a", "z"), add("b", "1")), nil, api.ErrLong)
	applies(t, crowd, append(slices.Repeat(edits(add("a", "z")), api.MaxEdits-1), drop("a", "z")), crowd, api.OK)
	applies(t, crowd, slices.Repeat(edits(add("a", "z")), api.MaxEdits), nil, api.ErrLong)
	applies(t, row(one("a", all[1:]...)), edits(add("a", "z")), row(one("a", append(slices.Clone(all[1:]), "z")...)), api.OK)
	applies(t, nil, slices.Repeat(edits(add("a", "z")), api.MaxTexts), row(one("a", slices.Repeat([]string{"z"}, api.MaxTexts)...)), api.OK)
	applies(t, nil, slices.Repeat(edits(add("a", "z")), api.MaxTexts+1), nil, api.ErrLong)

	v := wide(api.MaxFields)
	applies(t, v, edits(set("a", "z")), nil, api.ErrLong)
	applies(t, v, edits(add("z", "z")), nil, api.ErrLong)
	applies(t, v, edits(set("a", "z"), wipe("a")), v, api.OK)
	applies(t, v, edits(set("a", "z"), wipe("fA")), append(row(one("a", "z")), v[1:]...), api.OK)
	applies(t, v, edits(add("z", "z"), drop("fA", "x")), append(slices.Clone(v[1:]), one("z", "z")), api.OK)
	applies(t, wide(api.MaxFields-1), edits(add("z", "z")), append(wide(api.MaxFields-1), one("z", "z")), api.OK)
	applies(t, nil, many(api.MaxEdits), wide(api.MaxFields), api.OK)
	applies(t, row(one("a", "x")), many(api.MaxEdits), nil, api.ErrLong)
	applies(t, row(one("a", "x")), append(many(api.MaxEdits-1), wipe("a")), wide(api.MaxFields-1), api.OK)

	// An edit that is refused is told ahead of what would be too long.
	applies(t, v, edits(set("a", "z"), drop("a", "y")), nil, api.ErrNone)
	applies(t, v, edits(set("a", "z"), test("b", "y")), nil, api.ErrMatch)
	applies(t, crowd, edits(add("a", "z"), test("a", "y")), nil, api.ErrMatch)

	big := full()
	last := big[len(big)-1].Name
	applies(t, big, nil, big, api.OK)
	applies(t, big, edits(add(last, "")), nil, api.ErrLong)
	applies(t, big, edits(set(last, long(api.MaxText))), append(slices.Clone(big[:len(big)-1]), one(last, long(api.MaxText))), api.OK)
}

// TestApplyErrors: a value that is not normal, then edits that may not be, then what is refused.
func TestApplyErrors(t *testing.T) {
	lists := [][]api.Edit{nil, edits(wipe("a")), edits(set("a", "x")), edits(drop("q", "x")), edits(test("q", "x"))}
	for _, x := range bads() {
		lists = append(lists, x.l)
	}
	for _, v := range notNormal() {
		for _, l := range lists {
			applies(t, v, l, nil, api.ErrField)
		}
	}
	for _, x := range bads() {
		applies(t, nil, x.l, nil, x.e)
		applies(t, full(), x.l, nil, x.e)
		if len(x.l) < api.MaxEdits {
			applies(t, nil, append(edits(drop("q", "x")), x.l...), nil, x.e)
			applies(t, nil, append(edits(test("q", "x")), x.l...), nil, x.e)
		}
	}
}

// alphabet is edits that hit and miss each other in every way.
func alphabet() []api.Edit {
	return edits(set("b", "x"), set("c", "y"), add("b", "x"), add("b", "y"), add("a", ""), drop("b", "x"), drop("b", "y"), drop("c", "y"), wipe("b"), wipe("c"), test("b", "x"), test("c", "y"))
}

// starts are values to begin with.
func starts() [][]api.Field {
	return [][]api.Field{
		nil,
		row(one("b", "x")),
		row(one("a", "x"), one("b", "x", "y", "x"), one("c", "y")),
		row(one("b", slices.Repeat([]string{"x"}, api.MaxTexts-1)...)),
		append(row(one("b", "y", "y")), wide(api.MaxFields-1)...),
	}
}

// TestApplyEveryList holds Apply against its words, for all lists of up to 4 edits.
func TestApplyEveryList(t *testing.T) {
	seen := map[api.Errno]int{}
	for _, v := range starts() {
		lists(alphabet(), 4, func(l []api.Edit) {
			want, e := applied(v, l)
			applies(t, v, l, want, e)
			seen[e]++
		})
	}
	for _, e := range []api.Errno{api.OK, api.ErrNone, api.ErrMatch, api.ErrLong} {
		if seen[e] < 1000 {
			t.Errorf("%v came %d times: too few to say anything", e, seen[e])
		}
	}
}

// inPieces fails unless edits cut at n do as all together, where both pieces answer OK.
func inPieces(t *testing.T, v []api.Field, l []api.Edit, n int) {
	t.Helper()
	middle, e := Apply(v, l[:n])
	if e == api.ErrNone || e == api.ErrMatch {
		applies(t, v, l, nil, e)
	}
	if e != api.OK {
		return
	}
	// From a middle that is normal it goes on as if there had been no cut, refused or not.
	want, e := Apply(middle, l[n:])
	applies(t, v, l, want, e)
}

// TestInPieces is P8.3, for all lists of up to 3 edits, and for each cut of them.
func TestInPieces(t *testing.T) {
	for _, v := range starts() {
		lists(alphabet(), 3, func(l []api.Edit) {
			for n := range len(l) + 1 {
				inPieces(t, v, l, n)
			}
		})
	}
}

// numbers tells numbers that look random and are the same each time.
type numbers uint64

func (n *numbers) below(bound int) int {
	*n = *n*6364136223846793005 + 1442695040888963407
	return int(*n >> 33 % numbers(bound))
}

// TestLongLists is P8.1 and P8.3 for lists as long as they may be, over more names and texts.
func TestLongLists(t *testing.T) {
	var n numbers = 1
	seen := map[api.Errno]int{}
	for range 6000 {
		v := starts()[n.below(len(starts()))]
		var l []api.Edit
		for range n.below(api.MaxEdits + 1) {
			kinds := []int{api.EdSet, api.EdAdd, api.EdAdd, api.EdAdd, api.EdWipe, api.EdDrop, api.EdTest}
			edit := other(kinds[n.below(len(kinds))], fmt.Sprintf("%c", 'a'+n.below(4)), fmt.Sprintf("%c", 'x'+n.below(2)))
			if edit.Kind == api.EdWipe {
				edit.Text = ""
			}
			// Most that would be refused are left out, so that lists get long.
			if _, e := applied(v, append(slices.Clip(l), edit)); (e == api.ErrNone || e == api.ErrMatch) && n.below(20) > 0 {
				continue
			}
			l = append(l, edit)
		}
		want, e := applied(v, l)
		applies(t, v, l, want, e)
		seen[e]++
		for i := range len(l) + 1 {
			inPieces(t, v, l, i)
		}
	}
	for _, e := range []api.Errno{api.OK, api.ErrNone, api.ErrMatch, api.ErrLong} {
		if seen[e] < 200 {
			t.Errorf("%v came %d times: too few to say anything", e, seen[e])
		}
	}
}
