package turn

import "folio/api"

// mostWaits is how often a worker of Play waits at most.
const mostWaits = 64

// Trace is what Play tells.
type Trace struct {
	Order   []int
	Refused int
	Broken  []bool
}

// Play lets workers of so many waits be picked.
func Play(lengths []int, picks []int) Trace {
	var fs []func(y *Yield)
	for _, n := range lengths[:min(len(lengths), api.MaxWorkers)] {
		fs = append(fs, func(y *Yield) { waitOften(y, n) })
	}
	d := New(fs)
	var told Trace
	for _, k := range picks {
		if d.Grant(k) {
			told.Order = append(told.Order, k)
		} else {
			told.Refused++
		}
	}
	told.Order = append(told.Order, rounds(d, len(fs))...)
	d.Close()
	for k := range fs {
		told.Broken = append(told.Broken, d.Broken(k))
	}
	return told
}

// waitOften waits n times, and breaks off where n is below 0.
func waitOften(y *Yield, n int) {
	if n < 0 {
		panic("a length below 0")
	}
	for range min(n, mostWaits) {
		y.Wait()
	}
}

// rounds grants each of n workers in turn until none is live, and tells whom.
func rounds(d *Driver, n int) []int {
	var order []int
	for d.Live() > 0 {
		for k := range n {
			if d.Grant(k) {
				order = append(order, k)
			}
		}
	}
	return order
}
