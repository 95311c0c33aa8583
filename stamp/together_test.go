package stamp

import (
	"math"
	"runtime"
	"slices"
	"testing"
	"time"

	"folio/api"
)

// holds fails unless the lists are just the stamps from first + 1 on, so many of them, each once, each list rising.
func holds(t *testing.T, lists [][]uint64, first uint64, n int) {
	t.Helper()
	var all []uint64
	for _, l := range lists {
		for i := range l {
			if i > 0 && l[i-1] >= l[i] {
				t.Error("falls", l[i-1], l[i])
			}
		}
		all = append(all, l...)
	}
	slices.Sort(all)
	if len(all) != n {
		t.Fatal("so many stamps:", len(all), "and not", n)
	}
	for i, stamp := range all {
		if stamp != first+uint64(i)+1 {
			t.Fatal("stamp", i, "is", stamp)
		}
	}
}

func TestHandExample(t *testing.T) {
	l := Hand(4, 1, 3)
	if len(l) != 1 || !slices.Equal(l[0], []uint64{5, 6, 7}) {
		t.Error(l)
	}
}

func TestHandBounds(t *testing.T) {
	for _, x := range []struct{ threads, each, lists, stamps int }{
		{1, 1, 1, 1},
		{3, 5, 3, 15},
		{8, 500, 8, 4000},
		{0, 3, 0, 0},
		{-1, 3, 0, 0},
		{math.MinInt, math.MinInt, 0, 0},
		{2, 0, 2, 0},
		{2, -1, 2, 0},
		{2, math.MinInt, 2, 0},
		{api.MaxWorkers, 2, 16, 32},
		{api.MaxWorkers + 1, 2, 16, 32},
		{math.MaxInt, 1, 16, 16},
		{1, 4095, 1, 4095},
		{1, 4096, 1, 4096},
		{1, 4097, 1, 4096},
		{math.MaxInt, math.MaxInt, 16, 65536},
	} {
		l := Hand(10, x.threads, x.each)
		if len(l) != x.lists {
			t.Errorf("Hand(10, %d, %d): %d lists", x.threads, x.each, len(l))
		}
		holds(t, l, 10, x.stamps)
		for _, one := range l {
			if len(one) != x.stamps/x.lists {
				t.Errorf("Hand(10, %d, %d): one got %d", x.threads, x.each, len(one))
			}
		}
	}
}

func TestHandUntilSpent(t *testing.T) {
	for _, x := range []struct {
		left          uint64
		threads, each int
		stamps        int
	}{
		{0, 3, 4, 0},
		{1, 3, 4, 1},
		{10, 1, 4096, 10},
		{10, 16, 4096, 10},
		{4096, 2, 2048, 4096},
		{100, 5, 20, 100},
		{99, 5, 20, 99},
	} {
		first := api.MaxStamp - x.left
		l := Hand(first, x.threads, x.each)
		if len(l) != x.threads {
			t.Error("so many lists:", len(l))
		}
		holds(t, l, first, x.stamps)
	}
}

// TestHandMemory: no list of an answer shares memory with another, spare room too, nor do two answers.
func TestHandMemory(t *testing.T) {
	a, b := Hand(0, 4, 3), Hand(0, 4, 3)
	var was [][]uint64
	for _, l := range b {
		was = append(was, slices.Clone(l))
	}
	for k, l := range a {
		room := l[:cap(l)]
		for i := range room {
			room[i] = uint64(k + 1000)
		}
	}
	for k, l := range a {
		for _, n := range l[:cap(l)] {
			if n != uint64(k+1000) {
				t.Error("list", k, "shares memory")
			}
		}
	}
	for k, l := range b {
		if !slices.Equal(l, was[k]) {
			t.Error("two answers share memory")
		}
	}
}

func TestShuts(t *testing.T) {
	for _, x := range []struct{ threads, want int }{
		{5, 1},
		{0, 0},
		{-1, 0},
		{math.MinInt, 0},
		{1, 1},
		{api.MaxWorkers, 1},
		{api.MaxWorkers + 1, 1},
		{math.MaxInt, 1},
	} {
		for range 20 {
			if calls, trues := Shuts(x.threads); calls != x.want || trues != x.want {
				t.Errorf("Shuts(%d): %d, %d", x.threads, calls, trues)
			}
		}
	}
}

// TestAllHaveEnded: behind a call no goroutine of it is left.
func TestAllHaveEnded(t *testing.T) {
	before := runtime.NumGoroutine()
	for range 50 {
		Hand(0, 16, 10)
		Shuts(16)
	}
	// One that has said its end may still be on its way out.
	for range 200 {
		if runtime.NumGoroutine() <= before {
			return
		}
		time.Sleep(5 * time.Millisecond)
	}
	t.Error("goroutines are left:", runtime.NumGoroutine(), "and not", before)
}
