package stamp

import (
	"math"
	"sync"
	"testing"

	"folio/api"
)

// sameTick fails unless a Tick answers just so, and the clock says the same then.
func sameTick(t *testing.T, c *Clock, n, want int64) {
	t.Helper()
	if got := c.Tick(n); got != want {
		t.Errorf("Tick(%d): %d; want %d", n, got, want)
	}
	if got := c.Now(); got != want {
		t.Errorf("Now behind Tick(%d): %d; want %d", n, got, want)
	}
}

func TestClockExample(t *testing.T) {
	c := NewClock()
	if c.Now() != 0 {
		t.Error(c.Now())
	}
	sameTick(t, c, 3, 3)
	sameTick(t, c, 0, 3)
	sameTick(t, c, -5, 3)
	sameTick(t, c, api.MaxTick, api.MaxTick)
}

func TestTick(t *testing.T) {
	for _, x := range []struct{ at, n, want int64 }{
		{0, 0, 0},
		{0, 1, 1},
		{0, -1, 0},
		{4, math.MinInt64, 4},
		{4, 6, 10},
		{0, api.MaxTick - 1, api.MaxTick - 1},
		{0, api.MaxTick, api.MaxTick},
		{0, api.MaxTick + 1, api.MaxTick},
		{1, api.MaxTick - 1, api.MaxTick},
		{1, math.MaxInt64, api.MaxTick},
		{0, math.MaxInt64, api.MaxTick},
		{api.MaxTick - 1, 1, api.MaxTick},
		{api.MaxTick - 1, 2, api.MaxTick},
		{api.MaxTick - 1, 0, api.MaxTick - 1},
		{api.MaxTick, 0, api.MaxTick},
		{api.MaxTick, 1, api.MaxTick},
		{api.MaxTick, -1, api.MaxTick},
		{api.MaxTick, math.MaxInt64, api.MaxTick},
		{api.MaxTick, math.MinInt64, api.MaxTick},
	} {
		c := NewClock()
		c.Tick(x.at)
		sameTick(t, c, x.n, x.want)
	}
}

func TestClocksAreApart(t *testing.T) {
	a, b := NewClock(), NewClock()
	sameTick(t, a, 5, 5)
	sameTick(t, b, 0, 0)
}

// TestTicksTogether: no tick of any goroutine is lost, and no two are told the same.
func TestTicksTogether(t *testing.T) {
	c := NewClock()
	told := make([][]int64, 8)
	var all sync.WaitGroup
	for k := range told {
		all.Go(func() {
			for range 2000 {
				told[k] = append(told[k], c.Tick(3))
			}
		})
	}
	all.Wait()
	seen := map[int64]int{}
	for _, l := range told {
		for _, n := range l {
			seen[n]++
		}
	}
	if c.Now() != 48000 || len(seen) != 16000 || seen[3] != 1 || seen[48000] != 1 {
		t.Error(c.Now(), len(seen))
	}
}

// TestTicksTogetherAtTheEnd: however many goroutines tick, MaxTick isn't passed.
func TestTicksTogetherAtTheEnd(t *testing.T) {
	c := NewClock()
	c.Tick(api.MaxTick - 50)
	var all sync.WaitGroup
	for range 8 {
		all.Go(func() {
			for range 100 {
				if n := c.Tick(7); n > api.MaxTick {
					t.Error("passed", n)
				}
			}
		})
	}
	all.Wait()
	if c.Now() != api.MaxTick {
		t.Error(c.Now())
	}
}

func TestNilClock(t *testing.T) {
	var c *Clock
	for _, n := range []int64{0, 1, -1, api.MaxTick, math.MaxInt64} {
		sameTick(t, c, n, 0)
	}
}

func TestZeroClock(t *testing.T) {
	var c Clock
	if c.Now() != 0 {
		t.Error(c.Now())
	}
	sameTick(t, &c, 2, 2)
	sameTick(t, &c, api.MaxTick, api.MaxTick)
}
