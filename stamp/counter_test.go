package stamp

import (
	"sync"
	"testing"

	"folio/api"
)

// sameNext fails unless a Next answers just so.
func sameNext(t *testing.T, c *Counter, stamp uint64, e api.Errno) {
	t.Helper()
	if n, got := c.Next(); n != stamp || got != e {
		t.Errorf("Next: %d, %v; want %d, %v", n, got, stamp, e)
	}
}

// sameLast fails unless the last stamp is just that, and what is left fits it.
func sameLast(t *testing.T, c *Counter, last uint64) {
	t.Helper()
	if n := c.Last(); n != last {
		t.Errorf("Last: %d; want %d", n, last)
	}
	if n := c.Left(); n != api.MaxStamp-last {
		t.Errorf("Left: %d; want %d", n, api.MaxStamp-last)
	}
}

func TestCounterExample(t *testing.T) {
	c := New(7)
	sameLast(t, c, 7)
	sameNext(t, c, 8, api.OK)
	sameNext(t, c, 9, api.OK)
	if c.Raise(9) {
		t.Error("Raise to the last stamp")
	}
	if !c.Raise(12) {
		t.Error("no Raise above the last stamp")
	}
	sameLast(t, c, 12)
	sameNext(t, c, 13, api.OK)
}

func TestCounterAtItsEnd(t *testing.T) {
	c := New(api.MaxStamp - 1)
	if c.Left() != 1 {
		t.Error(c.Left())
	}
	sameNext(t, c, api.MaxStamp, api.OK)
	for range 3 {
		sameNext(t, c, 0, api.ErrSpent)
		sameLast(t, c, api.MaxStamp)
	}
	if c.Raise(api.MaxStamp) || c.Raise(0) {
		t.Error("Raise of a counter that is spent")
	}
	c = New(api.MaxStamp)
	sameNext(t, c, 0, api.ErrSpent)
	sameLast(t, c, api.MaxStamp)
}

func TestRaise(t *testing.T) {
	for _, x := range []struct {
		first, to uint64
		want      bool
	}{
		{0, 0, false},
		{0, 1, true},
		{5, 4, false},
		{5, 5, false},
		{5, 6, true},
		{5, 0, false},
		{0, api.MaxStamp, true},
		{1 << 63, 1<<63 - 1, false},
		{1<<63 - 1, 1 << 63, true},
		{api.MaxStamp - 1, api.MaxStamp - 1, false},
		{api.MaxStamp - 1, api.MaxStamp, true},
		{api.MaxStamp, api.MaxStamp, false},
	} {
		c := New(x.first)
		if got := c.Raise(x.to); got != x.want {
			t.Errorf("New(%d).Raise(%d): %v", x.first, x.to, got)
		}
		sameLast(t, c, max(x.first, x.to))
	}
}

// TestCounterEveryOrder tries all short scripts of calls against a plain number.
func TestCounterEveryOrder(t *testing.T) {
	const calls, length = 6, 5
	for _, first := range []uint64{0, 7, api.MaxStamp - 2, api.MaxStamp - 1, api.MaxStamp} {
		for script := range 7776 { // calls to the power of length
			c, last := New(first), first
			for rest, i := script, 0; i < length; rest, i = rest/calls, i+1 {
				switch rest % calls {
				case 0, 1:
					if last == api.MaxStamp {
						sameNext(t, c, 0, api.ErrSpent)
						break
					}
					last++
					sameNext(t, c, last, api.OK)
				case 2:
					sameLast(t, c, last)
				default:
					to := first + uint64(rest%calls) - 3
					if c.Raise(to) != (to > last) {
						t.Error("Raise", last, to)
					}
					last = max(last, to)
				}
			}
			sameLast(t, c, last)
			if t.Failed() {
				t.Fatal("first", first, "script", script)
			}
		}
	}
}

func TestCountersAreApart(t *testing.T) {
	a, b := New(3), New(3)
	sameNext(t, a, 4, api.OK)
	sameNext(t, b, 4, api.OK)
	a.Raise(90)
	sameLast(t, b, 4)
}

// TestStampsOnceWhileRaised lets some goroutines take stamps while others raise the counter: still none comes twice, and each one's rise.
func TestStampsOnceWhileRaised(t *testing.T) {
	c := New(0)
	lists := make([][]uint64, 8)
	raised := make([]int, 8)
	var all sync.WaitGroup
	for k := range lists {
		all.Go(func() { lists[k] = take(c, 2000) })
		all.Go(func() {
			for to := uint64(0); to < 40000; to += 100 {
				if c.Raise(to) {
					raised[k]++
				}
			}
		})
	}
	all.Wait()
	seen := map[uint64]int{}
	for _, l := range lists {
		if len(l) != 2000 {
			t.Error("got", len(l))
		}
		for i, n := range l {
			seen[n]++
			if i > 0 && l[i-1] >= n {
				t.Error("falls", l[i-1], n)
			}
		}
	}
	if len(seen) != 16000 {
		t.Error("some came twice:", len(seen))
	}
	sum := 0
	for _, n := range raised {
		sum += n
	}
	if sum > 399 {
		t.Error("one Raise was true twice:", sum)
	}
}

// TestRaiseTogether: of many goroutines that raise to one stamp at most one does, and the last stamp is never below it then.
func TestRaiseTogether(t *testing.T) {
	c := New(0)
	raised := make([][]uint64, 8)
	fell := make([]int, len(raised))
	begin := make(chan int)
	var all sync.WaitGroup
	for k := range raised {
		all.Go(func() {
			<-begin
			for range 20000 {
				to := c.Last() + 1 // where the others raise to as well
				if c.Raise(to) {
					raised[k] = append(raised[k], to)
				}
				if c.Last() < to {
					fell[k]++
				}
			}
		})
	}
	close(begin)
	all.Wait()
	seen := map[uint64]int{}
	for k, l := range raised {
		for _, to := range l {
			seen[to]++
			if seen[to] > 1 {
				t.Fatal("raised twice to", to)
			}
		}
		if fell[k] > 0 {
			t.Error("the last stamp fell")
		}
	}
	sameLast(t, c, uint64(len(seen)))
}

func TestNilCounter(t *testing.T) {
	var c *Counter
	sameNext(t, c, 0, api.ErrArg)
	if c.Last() != 0 || c.Left() != 0 {
		t.Error(c.Last(), c.Left())
	}
	if c.Raise(0) || c.Raise(1) || c.Raise(api.MaxStamp) {
		t.Error("Raise of nil")
	}
}

func TestZeroCounter(t *testing.T) {
	var c Counter
	sameLast(t, &c, 0)
	if c.Raise(0) {
		t.Error("Raise to 0")
	}
	sameNext(t, &c, 1, api.OK)
	if !c.Raise(5) {
		t.Error("no Raise to 5")
	}
	sameNext(t, &c, 6, api.OK)
}
