package name

import (
	"bytes"
	"slices"
	"strings"
	"testing"

	"folio/api"
)

// someKeys are keys of every sort, that may be and may not be, in order, each once.
func someKeys() []api.Key {
	long := strings.Repeat("A", api.MaxName+1)
	var l []api.Key
	for _, kind := range []string{"", "\x00", "/", "A", "A/", "AA", long, "B", "a", "\x7f", "\x80", "\xc3\x84", "\xff"} {
		for _, id := range []string{"", "\x00", "-", ".", "/", "0", "10", "2", "A", "a", "a\x00", "aa", "z", "\x80", "\xff"} {
			l = append(l, api.Key{Type: kind, ID: id})
		}
	}
	return l
}

// sameOrder fails unless Compare says just that of a and b.
func sameOrder(t *testing.T, a, b api.Key, want int) {
	t.Helper()
	if got := Compare(a, b); got != want {
		t.Errorf("Compare(%q, %q): %d; want %d", a, b, got, want)
	}
}

func TestCompareExamples(t *testing.T) {
	sameOrder(t, api.Key{Type: "A", ID: "z"}, api.Key{Type: "B", ID: "a"}, -1)
	sameOrder(t, api.Key{Type: "B", ID: "a"}, api.Key{Type: "A", ID: "z"}, 1)
	sameOrder(t, api.Key{Type: "A", ID: "a"}, api.Key{Type: "A", ID: "b"}, -1)
	sameOrder(t, api.Key{Type: "A", ID: "b"}, api.Key{Type: "A", ID: "a"}, 1)
	sameOrder(t, api.Key{Type: "A", ID: "a"}, api.Key{Type: "B", ID: "a"}, -1)
	sameOrder(t, api.Key{Type: "B", ID: "a"}, api.Key{Type: "A", ID: "a"}, 1)
	sameOrder(t, api.Key{Type: "A", ID: "a"}, api.Key{Type: "A", ID: "a"}, 0)
	sameOrder(t, api.Key{}, api.Key{}, 0)
	sameOrder(t, api.Key{}, api.Key{ID: "a"}, -1)
	sameOrder(t, api.Key{Type: "A"}, api.Key{ID: "a"}, 1)
	// By the parts, not by the text: "-" and "." stand ahead of "/" as bytes.
	sameOrder(t, api.Key{Type: "A", ID: "z"}, api.Key{Type: "A-", ID: "a"}, -1)
	sameOrder(t, api.Key{Type: "A", ID: "Bb"}, api.Key{Type: "AB", ID: "b"}, -1)
}

// TestTotalOrder is P2.3: the keys stand in one row, in which Compare tells the places.
func TestTotalOrder(t *testing.T) {
	l := someKeys()
	for i, a := range l {
		for j, b := range l {
			want := 0
			switch {
			case i < j:
				want = -1
			case i > j:
				want = 1
			}
			sameOrder(t, a, b, want)
			if i < j && bytes.Compare([]byte(a.Type), []byte(b.Type)) > 0 {
				t.Fatal("the row of the test is wrong")
			}
		}
	}
}

func TestSortLists(t *testing.T) {
	a, b, c := api.Key{Type: "A", ID: "z"}, api.Key{Type: "B", ID: "a"}, api.Key{Type: "B", ID: "b"}
	for _, x := range []struct{ list, want []api.Key }{
		{nil, nil},
		{[]api.Key{}, nil},
		{[]api.Key{a}, []api.Key{a}},
		{[]api.Key{{}}, []api.Key{{}}},
		{[]api.Key{a, a}, []api.Key{a}},
		{[]api.Key{a, a, a, a, a}, []api.Key{a}},
		{[]api.Key{b, a}, []api.Key{a, b}},
		{[]api.Key{a, b}, []api.Key{a, b}},
		{[]api.Key{c, a, b, a}, []api.Key{a, b, c}},
		{[]api.Key{a, b, a, b, a}, []api.Key{a, b}},
		{[]api.Key{c, c, b, b, a, a}, []api.Key{a, b, c}},
		{[]api.Key{{Type: "b", ID: "/"}, {Type: "", ID: "x"}, {}, {Type: "b"}, {}}, []api.Key{{}, {ID: "x"}, {Type: "b"}, {Type: "b", ID: "/"}}},
	} {
		if got := Sort(x.list); !slices.Equal(got, x.want) {
			t.Errorf("Sort(%q): %q; want %q", x.list, got, x.want)
		}
	}
}

// TestSortOneList is P2.3: every order, and every number of times, gives one list.
func TestSortOneList(t *testing.T) {
	row := someKeys()
	if got := Sort(row); !slices.Equal(got, row) {
		t.Error("a row that is in order")
	}
	back := slices.Clone(row)
	slices.Reverse(back)
	if got := Sort(back); !slices.Equal(got, row) {
		t.Error("a row that falls")
	}
	if got := Sort(slices.Concat(row, back, row[3:], back[5:])); !slices.Equal(got, row) {
		t.Error("a row with doubles")
	}
	// Steps that share no divisor with the length go through the whole row, each in another order.
	for step := 1; step < len(row); step++ {
		var mixed []api.Key
		for i := range row {
			mixed = append(mixed, row[i*step%len(row)])
		}
		want := slices.Clone(mixed)
		slices.SortFunc(want, func(a, b api.Key) int { return slices.Index(row, a) - slices.Index(row, b) })
		if got := Sort(mixed); !slices.Equal(got, slices.Compact(want)) {
			t.Errorf("step %d: %q", step, got)
		}
	}
}

// TestSortLeavesAlone is R3: the list that is handed in stays, its spare room too, and the answer is apart from it.
func TestSortLeavesAlone(t *testing.T) {
	a, b, c := api.Key{Type: "A", ID: "z"}, api.Key{Type: "B", ID: "a"}, api.Key{Type: "B", ID: "b"}
	spare := api.Key{Type: "Spare", ID: "s"}
	for _, list := range [][]api.Key{{c, a, b, a}, {a, b}, {a}, {a, a}, {}} {
		whole := append(slices.Clone(list), spare, spare, spare, spare)
		was := slices.Clone(whole)
		got := Sort(whole[:len(list)])
		want := slices.Clone(got)
		if !slices.Equal(whole, was) {
			t.Errorf("Sort changed what it was given: %q", whole)
		}
		room := got[:cap(got)]
		for i := range room {
			room[i] = api.Key{Type: "X", ID: "x"}
		}
		_ = append(got, spare)
		if !slices.Equal(whole, was) {
			t.Errorf("what Sort answers is what it was given: %q", whole)
		}
		if again := Sort(whole[:len(list)]); !slices.Equal(again, want) {
			t.Errorf("Sort again: %q", again)
		}
	}
}
