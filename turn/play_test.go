package turn

import (
	"math"
	"slices"
	"testing"

	"folio/api"
)

// spelt is what Play tells, worked out without any worker.
func spelt(lengths, picks []int) Trace {
	var x Trace
	var left []int
	for _, n := range lengths {
		if len(left) == 16 {
			break
		}
		switch {
		case n < 0:
			left = append(left, 1)
		case n > 64:
			left = append(left, 65)
		default:
			left = append(left, n+1)
		}
		x.Broken = append(x.Broken, n < 0)
	}
	for _, k := range picks {
		if k < 0 || k >= len(left) || left[k] == 0 {
			x.Refused++
			continue
		}
		left[k]--
		x.Order = append(x.Order, k)
	}
	for range 65 {
		for k := range left {
			if left[k] > 0 {
				left[k]--
				x.Order = append(x.Order, k)
			}
		}
	}
	return x
}

// plays fails unless Play tells what is said.
func plays(t *testing.T, lengths, picks []int, want Trace) {
	t.Helper()
	x := Play(lengths, picks)
	if !slices.Equal(x.Order, want.Order) || x.Refused != want.Refused || !slices.Equal(x.Broken, want.Broken) {
		t.Fatalf("Play(%v, %v): %v and not %v", lengths, picks, x, want)
	}
}

func TestPlayExamples(t *testing.T) {
	plays(t, []int{1, 0}, []int{0, 0, 0, 1, 7}, Trace{[]int{0, 0, 1}, 2, []bool{false, false}})
	plays(t, []int{2}, nil, Trace{[]int{0, 0, 0}, 0, []bool{false}})
	plays(t, []int{-1, 1}, []int{1}, Trace{[]int{1, 0, 1}, 0, []bool{true, false}})
}

func TestPlayNothing(t *testing.T) {
	plays(t, nil, nil, Trace{})
	plays(t, []int{}, []int{}, Trace{})
	plays(t, nil, []int{0, 0, -1, 16}, Trace{Refused: 4})
}

func TestPlayRoundAndRound(t *testing.T) {
	plays(t, []int{1, -1, 3, 0}, nil, Trace{[]int{0, 1, 2, 3, 0, 2, 2, 2}, 0, []bool{false, true, false, false}})
	plays(t, []int{1, -1, 3, 0}, []int{2, 3, 2, 3}, Trace{[]int{2, 3, 2, 0, 1, 2, 0, 2}, 1, []bool{false, true, false, false}})
	plays(t, []int{-1, -1}, []int{1, 1, 0, 0}, Trace{[]int{1, 0}, 2, []bool{true, true}})
}

// TestPlayLengths: a worker waits 64 times at most, and breaks off below 0.
func TestPlayLengths(t *testing.T) {
	for _, x := range []struct {
		length, grants int
		broken         bool
	}{
		{math.MinInt, 1, true},
		{-2, 1, true},
		{-1, 1, true},
		{0, 1, false},
		{1, 2, false},
		{63, 64, false},
		{64, 65, false},
		{65, 65, false},
		{1000, 65, false},
		{math.MaxInt, 65, false},
	} {
		plays(t, []int{x.length}, nil, Trace{make([]int, x.grants), 0, []bool{x.broken}})
		picks := make([]int, 70)
		plays(t, []int{x.length}, picks, Trace{make([]int, x.grants), 70 - x.grants, []bool{x.broken}})
	}
}

// TestPlayMostWorkers: lengths behind the sixteenth are no workers', nor told as broken or not.
func TestPlayMostWorkers(t *testing.T) {
	for _, n := range []int{api.MaxWorkers - 1, api.MaxWorkers, api.MaxWorkers + 1, 50} {
		lengths := make([]int, n)
		lengths[n-1] = -1
		picks := append([]int{14, 15, 16, 17, 15, 49, n - 1}, nowhere...)
		x := Play(lengths, picks)
		if len(x.Broken) != min(n, 16) || len(x.Order) != min(n, 16) {
			t.Error(n, x)
		}
		plays(t, lengths, picks, spelt(lengths, picks))
	}
}

// TestPlayEveryShortOne tries all short lists of lengths and picks against what is spelt out.
func TestPlayEveryShortOne(t *testing.T) {
	lists := func(from, to, most int) [][]int {
		all, last := [][]int{nil}, [][]int{nil}
		for range most {
			var next [][]int
			for _, l := range last {
				for n := from; n <= to; n++ {
					next = append(next, append(slices.Clone(l), n))
				}
			}
			all, last = append(all, next...), next
		}
		return all
	}
	picks := lists(-1, 3, 4)
	for _, lengths := range lists(-1, 2, 3) {
		for _, p := range picks {
			plays(t, lengths, p, spelt(lengths, p))
		}
	}
}

func TestPlayLong(t *testing.T) {
	seed := uint32(1)
	next := func(n int) int {
		seed = seed*1664525 + 1013904223
		return int(seed>>8) % n
	}
	for range 60 {
		var lengths, picks []int
		for range next(20) {
			lengths = append(lengths, next(90)-4)
		}
		for range next(1500) {
			picks = append(picks, next(19)-1)
		}
		plays(t, lengths, picks, spelt(lengths, picks))
	}
}

// TestPlayMemory: what is handed in stays as it is, spare room too, and an answer's lists are its own.
func TestPlayMemory(t *testing.T) {
	lengths := []int{1, -1, 70, 5, 5}
	picks := []int{0, 2, 0, 9, 1, 1}
	a := Play(lengths[:3], picks[:4])
	b := Play(lengths[:3], picks[:4])
	if !slices.Equal(lengths, []int{1, -1, 70, 5, 5}) || !slices.Equal(picks, []int{0, 2, 0, 9, 1, 1}) {
		t.Error("changed", lengths, picks)
	}
	for i := range a.Order[:cap(a.Order)] {
		a.Order[:cap(a.Order)][i] = 77
	}
	for i := range a.Broken[:cap(a.Broken)] {
		a.Broken[:cap(a.Broken)][i] = true
	}
	want := spelt(lengths[:3], picks[:4])
	if !slices.Equal(b.Order, want.Order) || !slices.Equal(b.Broken, want.Broken) {
		t.Error("two answers share memory")
	}
	if !slices.Equal(lengths, []int{1, -1, 70, 5, 5}) || !slices.Equal(picks, []int{0, 2, 0, 9, 1, 1}) {
		t.Error("an answer shares memory with what was handed in")
	}
}

func TestPlayLeavesNoGoroutine(t *testing.T) {
	before := quiet()
	for range 50 {
		Play([]int{3, -1, 70, 0}, []int{0, 1, 2, 3, 4})
	}
	settles(t, before)
}
