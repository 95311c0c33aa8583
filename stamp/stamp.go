// Package stamp is layer 1: see shared/doc/01-stamp.md.
package stamp

import (
	"sync"
	"sync/atomic"

	"folio/api"
)

// mostEach is how often a goroutine of Hand asks for a stamp at most.
const mostEach = 4096

// Counter gives stamps.
type Counter struct {
	last atomic.Uint64
}

// Clock ticks when it is told to.
type Clock struct {
	now atomic.Int64
}

// Shut is a thing that is done once.
type Shut struct {
	once sync.Once
	done atomic.Bool
}

// New is a counter whose last stamp is first.
func New(first uint64) *Counter {
	c := new(Counter)
	c.last.Store(first)
	return c
}

// Next gives the next stamp.
func (c *Counter) Next() (uint64, api.Errno) {
	if c == nil {
		return 0, api.ErrArg
	}
	// A plain Add would wrap round behind the last stamp there is.
	for {
		last := c.last.Load()
		if last == api.MaxStamp {
			return 0, api.ErrSpent
		}
		if c.last.CompareAndSwap(last, last+1) {
			return last + 1, api.OK
		}
	}
}

// Last is the last stamp.
func (c *Counter) Last() uint64 {
	if c == nil {
		return 0
	}
	return c.last.Load()
}

// Left is how many stamps there still are.
func (c *Counter) Left() uint64 {
	if c == nil {
		return 0
	}
	return api.MaxStamp - c.last.Load()
}

// Raise makes to the last stamp, if it is above it.
func (c *Counter) Raise(to uint64) bool {
	if c == nil {
		return false
	}
	for {
		last := c.last.Load()
		if to <= last {
			return false
		}
		if c.last.CompareAndSwap(last, to) {
			return true
		}
	}
}

// NewClock is a clock at 0.
func NewClock() *Clock { return new(Clock) }

// Tick lets the clock go on.
func (c *Clock) Tick(n int64) int64 {
	if c == nil {
		return 0
	}
	for {
		now := c.now.Load()
		then := later(now, n)
		if c.now.CompareAndSwap(now, then) {
			return then
		}
	}
}

// later is n behind now, at MaxTick at most.
func later(now, n int64) int64 {
	if n < 1 {
		return now
	}
	// The sum might pass what an int64 holds, the difference can't.
	if n > api.MaxTick-now {
		return api.MaxTick
	}
	return now + n
}

// Now is what the clock says.
func (c *Clock) Now() int64 {
	if c == nil {
		return 0
	}
	return c.now.Load()
}

// NewShut is a thing that was not done.
func NewShut() *Shut { return new(Shut) }

// Do does it, if nobody has.
func (s *Shut) Do(f func()) bool {
	if s == nil {
		return false
	}
	first := false
	s.once.Do(func() {
		first = true
		// Within the once, so that no Do ends ahead of Done being true.
		defer s.done.Store(true)
		if f != nil {
			f()
		}
	})
	return first
}

// Done says whether it is done.
func (s *Shut) Done() bool {
	if s == nil {
		return false
	}
	return s.done.Load()
}

// Hand gives stamps to goroutines.
func Hand(first uint64, threads, each int) [][]uint64 {
	c := New(first)
	n := within(each, mostEach)
	lists := make([][]uint64, within(threads, api.MaxWorkers))
	together(len(lists), func(k int) { lists[k] = take(c, n) })
	return lists
}

// take is what n Nexts of a counter give, fewer if it is spent.
func take(c *Counter, n int) []uint64 {
	var got []uint64
	for range n {
		stamp, e := c.Next()
		if e != api.OK {
			break
		}
		got = append(got, stamp)
	}
	return got
}

// Shuts lets goroutines do one thing once.
func Shuts(threads int) (calls, trues int) {
	s := NewShut()
	var called, first atomic.Int64
	together(within(threads, api.MaxWorkers), func(int) {
		if s.Do(func() { called.Add(1) }) {
			first.Add(1)
		}
	})
	return int(called.Load()), int(first.Load())
}

// within is n, held between 0 and most.
func within(n, most int) int { return min(max(n, 0), most) }

// together does work with each number below n, each in a goroutine of its own, and waits for all.
func together(n int, work func(k int)) {
	var all sync.WaitGroup
	for k := range n {
		all.Add(1)
		go func() {
			defer all.Done()
			work(k)
		}()
	}
	all.Wait()
}
