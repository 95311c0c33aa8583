package turn

import (
	"errors"
	"runtime"
	"slices"
	"testing"
	"time"
)

// closed fails unless a driver of n workers is as it is behind Close.
func closed(t *testing.T, d *Driver, n int) {
	t.Helper()
	lives(t, d, 0)
	for k := range n {
		grants(t, d, k, false)
		if !d.Ended(k) {
			t.Error("not ended:", k)
		}
	}
}

// TestCloseUnwinds: the Wait doesn't answer, what was deferred is called, the last first.
func TestCloseUnwinds(t *testing.T) {
	log := ""
	d := New([]func(y *Yield){func(y *Yield) {
		defer func() { log += "1" }()
		defer func() { log += "2" }()
		func() {
			defer func() { log += "3" }()
			y.Wait()
			log += "x"
		}()
		log += "y"
	}})
	grants(t, d, 0, true)
	if log != "" {
		t.Error(log)
	}
	d.Close()
	if log != "321" {
		t.Error(log)
	}
	closed(t, d, 1)
	is(t, d, 0, true, false)
	d.Close()
	if log != "321" {
		t.Error("unwound twice", log)
	}
	closed(t, d, 1)
}

// TestCloseEachKind: one that hasn't begun isn't called; one that has ended stays as it is.
func TestCloseEachKind(t *testing.T) {
	log := ""
	d := New([]func(y *Yield){
		func(y *Yield) { log += "not begun" },
		func(y *Yield) { defer func() { log += "b" }(); log += "a" },
		func(y *Yield) { panic("x") },
		func(y *Yield) { defer func() { log += "d" }(); y.Wait(); log += "c"; y.Wait(); log += "x" },
		nil,
		nil,
		func(y *Yield) { log += "not begun" },
	})
	for _, k := range []int{1, 2, 3, 3, 5} {
		grants(t, d, k, true)
	}
	lives(t, d, 4)
	if log != "abc" {
		t.Error(log)
	}
	for range 2 {
		d.Close()
		if log != "abcd" {
			t.Error(log)
		}
		closed(t, d, 7)
		for k := range 7 {
			is(t, d, k, true, k == 2)
		}
	}
}

// TestCloseAtOnce: closed ahead of all grants, none is called and all have ended.
func TestCloseAtOnce(t *testing.T) {
	var log []int
	var fs []func(y *Yield)
	for k := range 20 {
		fs = append(fs, waits(k, k, &log))
	}
	d := New(fs)
	d.Close()
	closed(t, d, 16)
	is(t, d, 16, false, false)
	for k := range 16 {
		is(t, d, k, true, false)
	}
	if len(log) != 0 {
		t.Error(log)
	}
}

// TestCloseWhenAllEnded changes nothing that is told.
func TestCloseWhenAllEnded(t *testing.T) {
	d := New([]func(y *Yield){nil, func(y *Yield) { panic("x") }})
	grants(t, d, 1, true)
	grants(t, d, 0, true)
	d.Close()
	closed(t, d, 2)
	is(t, d, 0, true, false)
	is(t, d, 1, true, true)
}

// TestCloseByNumbers: whatever the order in which they began, they are unwound by their numbers, each to its end ahead of the next.
func TestCloseByNumbers(t *testing.T) {
	var log []int
	within := 0
	var fs []func(y *Yield)
	for k := range 8 {
		fs = append(fs, func(y *Yield) {
			defer func() {
				within--
				log = append(log, k)
			}()
			defer func() {
				within++
				for range 5 {
					runtime.Gosched()
					if within != 1 {
						t.Error("two at a time")
					}
				}
				time.Sleep(time.Millisecond)
			}()
			y.Wait()
			y.Wait()
		})
	}
	d := New(fs)
	for _, k := range []int{7, 2, 5, 5, 0, 3, 3, 3, 6} { // 3 has ended then
		d.Grant(k)
	}
	if !slices.Equal(log, []int{3}) {
		t.Error(log)
	}
	d.Close()
	if !slices.Equal(log, []int{3, 0, 2, 5, 6, 7}) {
		t.Error(log)
	}
	closed(t, d, 8)
}

// TestCloseBreaks: a worker whose deferred function panics, when it is unwound, ended by a panic of its own; the others are ended all the same.
func TestCloseBreaks(t *testing.T) {
	for what, f := range breaks() {
		var log []int
		d := New([]func(y *Yield){
			func(y *Yield) { defer func() { log = append(log, 0) }(); y.Wait() },
			func(y *Yield) { defer func() { log = append(log, 1) }(); defer f(y); y.Wait() },
			func(y *Yield) { defer func() { log = append(log, 2) }(); y.Wait() },
		})
		for k := range 3 {
			grants(t, d, k, true)
		}
		d.Close()
		closed(t, d, 3)
		is(t, d, 0, true, false)
		is(t, d, 1, true, true)
		is(t, d, 2, true, false)
		if !slices.Equal(log, []int{0, 1, 2}) {
			t.Error(log)
		}
		if t.Failed() {
			t.Fatal(what)
		}
	}
}

// TestCloseRecovered: a function that recovers from being unwound goes on to its end, or to its next Wait, which doesn't answer either.
func TestCloseRecovered(t *testing.T) {
	log := ""
	try := func(y *Yield) {
		defer func() {
			if recover() != nil {
				log += "r"
			}
		}()
		y.Wait()
		log += "x"
	}
	d := New([]func(y *Yield){
		func(y *Yield) { try(y); log += "a" },
		func(y *Yield) { try(y); try(y); try(y); log += "b" },
		func(y *Yield) { try(y); y.Wait(); log += "x" },
		func(y *Yield) { try(y); panic("x") },
		func(y *Yield) { try(y); runtime.Goexit() },
	})
	for k := range 5 {
		grants(t, d, k, true)
	}
	d.Close()
	closed(t, d, 5)
	for k := range 5 {
		is(t, d, k, true, k == 3)
	}
	if log != "ra"+"rrrb"+"r"+"r"+"r" {
		t.Error(log)
	}
}

// TestCloseThrownOn: who recovers from being unwound and panics with the very same has no panic of its own; with another thing, it has.
func TestCloseThrownOn(t *testing.T) {
	d := New([]func(y *Yield){
		func(y *Yield) { defer func() { panic(recover()) }(); y.Wait() },
		func(y *Yield) { defer func() { recover(); panic(errors.New("x")) }(); y.Wait() },
	})
	d.Grant(0)
	d.Grant(1)
	d.Close()
	closed(t, d, 2)
	is(t, d, 0, true, false)
	is(t, d, 1, true, true)
}

// TestPanicOfAnother: what another worker was unwound with is a panic of one's own like any other.
func TestPanicOfAnother(t *testing.T) {
	var thrown any
	d := New([]func(y *Yield){
		func(y *Yield) { defer func() { thrown = recover() }(); y.Wait() },
		func(y *Yield) { defer func() { panic(thrown) }(); y.Wait() },
	})
	d.Grant(0)
	d.Grant(1)
	d.Close()
	closed(t, d, 2)
	is(t, d, 0, true, false)
	is(t, d, 1, true, true)
	if thrown == nil {
		t.Fatal("not unwound")
	}
	d = New([]func(y *Yield){func(y *Yield) { panic(thrown) }})
	grants(t, d, 0, true)
	is(t, d, 0, true, true)
}

// TestCloseFromWithin: what is asked while the driver is closed, by a deferred function, ends too, and grants none.
func TestCloseFromWithin(t *testing.T) {
	var d *Driver
	var log []int
	f := func(y *Yield) {
		defer func() {
			for k := range 4 {
				grants(t, d, k, false)
			}
			d.Close()
			log = append(log, d.Live())
		}()
		y.Wait()
		t.Error("gone on")
	}
	d = New([]func(y *Yield){f, f, waits(9, 1, &log)})
	d.Grant(0)
	d.Grant(1)
	d.Close()
	closed(t, d, 3)
	if !slices.Equal(log, []int{3, 2}) {
		t.Error(log)
	}
}

// TestNoGoroutineIsLeft, however the workers stood when the driver was closed.
func TestNoGoroutineIsLeft(t *testing.T) {
	before := quiet()
	for i := range 200 {
		var log []int
		var fs []func(y *Yield)
		for k := range 14 {
			fs = append(fs, waits(k, k%5, &log))
		}
		fs = append(fs, nil, func(y *Yield) { panic("x") })
		d := New(fs)
		for pick := range i {
			d.Grant(pick * 7 % 16)
		}
		d.Close()
		closed(t, d, 16)
	}
	settles(t, before)
}

// TestUnclosedWaits: a driver that isn't closed leaves those waiting that have begun and not ended, and no other.
func TestUnclosedWaits(t *testing.T) {
	before := quiet()
	var log []int
	d := New([]func(y *Yield){waits(0, 1, &log), waits(1, 1, &log), waits(2, 0, &log), waits(3, 0, &log)})
	for _, k := range []int{0, 1, 1, 2} {
		grants(t, d, k, true)
	}
	settles(t, before+1)
	if n := runtime.NumGoroutine(); n != before+1 {
		t.Error("goroutines:", n, "and not", before+1)
	}
	d.Close()
	settles(t, before)
}
