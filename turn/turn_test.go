package turn

import (
	"math"
	"runtime"
	"slices"
	"testing"
	"time"

	"folio/api"
)

// nowhere are numbers of no worker of any driver.
var nowhere = []int{-1, -2, math.MinInt, api.MaxWorkers, api.MaxWorkers + 1, math.MaxInt}

// waits is a worker that waits n times and writes its number into the log at each of its parts.
func waits(k, n int, log *[]int) func(y *Yield) {
	return func(y *Yield) {
		*log = append(*log, k)
		for range n {
			y.Wait()
			*log = append(*log, k)
		}
	}
}

// is fails unless the worker is as said.
func is(t *testing.T, d *Driver, k int, ended, broken bool) {
	t.Helper()
	if d.Ended(k) != ended || d.Broken(k) != broken {
		t.Errorf("worker %d: Ended %v, Broken %v", k, d.Ended(k), d.Broken(k))
	}
}

// grants fails unless the Grant answers so.
func grants(t *testing.T, d *Driver, k int, want bool) {
	t.Helper()
	if d.Grant(k) != want {
		t.Errorf("Grant(%d) isn't %v", k, want)
	}
}

// lives fails unless so many are live.
func lives(t *testing.T, d *Driver, want int) {
	t.Helper()
	if n := d.Live(); n != want {
		t.Errorf("live: %d and not %d", n, want)
	}
}

// quiet is how many goroutines there are, once those that are on their way out have gone.
func quiet() int {
	n, same := runtime.NumGoroutine(), 0
	for same < 10 {
		time.Sleep(time.Millisecond)
		now := runtime.NumGoroutine()
		if same++; now != n {
			n, same = now, 0
		}
	}
	return n
}

// settles fails unless there come to be no more goroutines than before.
func settles(t *testing.T, before int) {
	t.Helper()
	// One that has said its end may still be on its way out.
	for range 400 {
		if runtime.NumGoroutine() <= before {
			return
		}
		time.Sleep(5 * time.Millisecond)
	}
	t.Error("goroutines are left:", runtime.NumGoroutine(), "and not", before)
}

func TestNoneHasBegun(t *testing.T) {
	before := quiet()
	var log []int
	d := New([]func(y *Yield){waits(0, 0, &log), nil, waits(2, 3, &log)})
	lives(t, d, 3)
	for k := range 3 {
		is(t, d, k, false, false)
	}
	time.Sleep(5 * time.Millisecond)
	if len(log) != 0 || runtime.NumGoroutine() > before {
		t.Error("begun without a grant", log)
	}
}

func TestGrantGoesToTheNextWait(t *testing.T) {
	log := ""
	d := New([]func(y *Yield){func(y *Yield) {
		log += "a"
		y.Wait()
		log += "b"
		y.Wait()
		y.Wait()
		log += "c"
	}})
	for i, want := range []string{"a", "ab", "ab", "abc"} {
		is(t, d, 0, false, false)
		lives(t, d, 1)
		grants(t, d, 0, true)
		if log != want {
			t.Errorf("behind grant %d: %q", i, log)
		}
	}
	is(t, d, 0, true, false)
	lives(t, d, 0)
	for range 3 {
		grants(t, d, 0, false)
	}
	if log != "abc" {
		t.Error(log)
	}
}

// TestNilFunction: it is live till it is granted, and ends at once then.
func TestNilFunction(t *testing.T) {
	d := New([]func(y *Yield){nil, nil})
	lives(t, d, 2)
	is(t, d, 1, false, false)
	grants(t, d, 1, true)
	is(t, d, 1, true, false)
	is(t, d, 0, false, false)
	lives(t, d, 1)
	grants(t, d, 1, false)
	grants(t, d, 0, true)
	lives(t, d, 0)
}

func TestNoWorkers(t *testing.T) {
	for _, fs := range [][]func(y *Yield){nil, {}} {
		d := New(fs)
		if d == nil {
			t.Fatal("no driver")
		}
		for range 2 {
			for _, k := range append([]int{0, 1}, nowhere...) {
				grants(t, d, k, false)
				is(t, d, k, false, false)
			}
			lives(t, d, 0)
			d.Close()
		}
	}
}

// TestNumbersOfNoWorker: such a number is refused, and is no worker that has ended, not even behind Close.
func TestNumbersOfNoWorker(t *testing.T) {
	var log []int
	d := New([]func(y *Yield){waits(0, 1, &log), waits(1, 1, &log), waits(2, 0, &log)})
	for range 2 {
		for _, k := range append([]int{3, 4}, nowhere...) {
			grants(t, d, k, false)
			is(t, d, k, false, false)
		}
		if len(log) != 0 {
			t.Error("someone went on", log)
		}
		d.Close()
	}
}

// TestMostWorkers: those behind the sixteenth are none.
func TestMostWorkers(t *testing.T) {
	for _, n := range []int{1, api.MaxWorkers - 1, api.MaxWorkers, api.MaxWorkers + 1, 100} {
		var log []int
		var fs []func(y *Yield)
		for k := range n {
			fs = append(fs, waits(k, 0, &log))
		}
		d := New(fs)
		there := min(n, 16)
		lives(t, d, there)
		var want []int
		for k := range n {
			is(t, d, k, false, false)
			grants(t, d, k, k < there)
			is(t, d, k, k < there, false)
			if k < there {
				want = append(want, k)
			}
		}
		lives(t, d, 0)
		d.Close()
		is(t, d, there-1, true, false)
		is(t, d, there, false, false)
		if !slices.Equal(log, want) {
			t.Error(n, log)
		}
	}
}

// TestYieldsAreTheirOwn: each worker has one Yield, and no two have the same.
func TestYieldsAreTheirOwn(t *testing.T) {
	seen := map[*Yield]int{}
	note := func(y *Yield) {
		seen[y]++
		y.Wait()
	}
	d, other := New([]func(y *Yield){note, note, note}), New([]func(y *Yield){note})
	for k := range 3 {
		grants(t, d, k, true)
	}
	grants(t, other, 0, true)
	if len(seen) != 4 || seen[nil] != 0 {
		t.Error(len(seen))
	}
	d.Close()
	is(t, other, 0, false, false)
	grants(t, other, 0, true)
	is(t, other, 0, true, false)
}

// TestFunctionsAreKept: what is done to the list behind New is not seen, and New leaves it as it is, spare room too.
func TestFunctionsAreKept(t *testing.T) {
	var log []int
	room := []func(y *Yield){waits(0, 0, &log), waits(1, 0, &log), waits(2, 0, &log), nil}
	d := New(room[:2])
	room[0], room[1] = nil, waits(9, 0, &log)
	grants(t, d, 0, true)
	grants(t, d, 1, true)
	grants(t, d, 2, false)
	if !slices.Equal(log, []int{0, 1}) {
		t.Error(log)
	}
	room[2](nil)
	if room[3] != nil || len(log) != 3 {
		t.Error("the spare room is changed")
	}
}

// TestEveryOrder tries all short scripts of grants against workers that are spelt out.
func TestEveryOrder(t *testing.T) {
	const picks, length = 4, 7
	lengths := []int{2, 0, 1}
	for script := range 16384 { // picks to the power of length
		var log, want []int
		var fs []func(y *Yield)
		left := []int{3, 1, 2}
		for k, n := range lengths {
			fs = append(fs, waits(k, n, &log))
		}
		d := New(fs)
		for rest, i := script, 0; i < length; rest, i = rest/picks, i+1 {
			k := rest % picks
			goes := k < len(left) && left[k] > 0
			if goes {
				left[k]--
				want = append(want, k)
			}
			grants(t, d, k, goes)
			live := 0
			for k, n := range left {
				is(t, d, k, n == 0, false)
				live += min(n, 1)
			}
			lives(t, d, live)
		}
		if !slices.Equal(log, want) {
			t.Error("done:", log, "and not", want)
		}
		d.Close()
		lives(t, d, 0)
		if len(log) != len(want) {
			t.Error("gone on by Close")
		}
		if t.Failed() {
			t.Fatal("script", script)
		}
	}
}

// TestEachItsOwn: a worker of n Waits is granted n + 1 times and is ended then, however the others' grants lie between.
func TestEachItsOwn(t *testing.T) {
	for _, others := range [][]int{nil, {1}, {1, 1, 2}, {2, 1, 3, 3, 3}} {
		for n := range 40 {
			var log, rest []int
			d := New([]func(y *Yield){waits(0, n, &log), waits(1, 1000, &rest), waits(2, 3, &rest), nil})
			for i := range n + 1 {
				is(t, d, 0, false, false)
				grants(t, d, 0, true)
				if len(log) != i+1 {
					t.Fatal(n, i, log)
				}
				for _, k := range others {
					d.Grant(k)
				}
				if len(log) != i+1 {
					t.Fatal("goes on by another's grant", n, i, log)
				}
			}
			is(t, d, 0, true, false)
			grants(t, d, 0, false)
			d.Close()
		}
	}
}

// TestOneAtATime lets all workers change plain things that they share, at length and with the scheduler asked to let others on: no two are ever within them, and none between two Grants.
func TestOneAtATime(t *testing.T) {
	within, now, done := 0, -1, 0
	var fs []func(y *Yield)
	for k := range api.MaxWorkers {
		fs = append(fs, func(y *Yield) {
			for range 30 + k {
				within++
				for range 5 {
					runtime.Gosched()
					if within != 1 || now != k {
						t.Error("two at a time:", within, now, k)
					}
				}
				done++
				within--
				y.Wait()
			}
		})
	}
	d := New(fs)
	want := 0
	for i := 0; d.Live() > 0; i++ {
		now = i * i % 97 % api.MaxWorkers
		ended := d.Ended(now)
		if d.Grant(now) == ended {
			t.Error("Grant", now, ended)
		}
		if !ended && !d.Ended(now) {
			want++
		}
		now = -1
		if i%50 == 0 {
			runtime.Gosched()
		}
		if done != want || within != 0 {
			t.Fatal("behind a Grant:", done, want, within)
		}
		if i%7 == 0 {
			now = i / 7 % api.MaxWorkers
			if d.Grant(now) && !d.Ended(now) {
				want++
			}
		}
	}
	if done != want || want != 16*30+120 {
		t.Error(done, want)
	}
}

// TestNothingGoesOnByItself: between two grants a worker that waits stays where it is.
func TestNothingGoesOnByItself(t *testing.T) {
	var log []int
	d := New([]func(y *Yield){waits(0, 5, &log), waits(1, 5, &log)})
	for i := range 10 {
		grants(t, d, i%2, true)
		time.Sleep(time.Millisecond)
		if len(log) != i+1 {
			t.Error(i, log)
		}
	}
	d.Close()
}

// TestDeepWait: a Wait may stand as deep in the function as it likes, and in what it defers.
func TestDeepWait(t *testing.T) {
	log := ""
	var deep func(y *Yield, n int)
	deep = func(y *Yield, n int) {
		if n > 0 {
			deep(y, n-1)
		}
		y.Wait()
		log += "."
	}
	d := New([]func(y *Yield){func(y *Yield) {
		defer func() {
			y.Wait()
			log += "!"
		}()
		deep(y, 3)
	}})
	for _, want := range []string{"", ".", "..", "...", "....", "....!"} {
		is(t, d, 0, false, false)
		grants(t, d, 0, true)
		if log != want {
			t.Errorf("%q and not %q", log, want)
		}
	}
	is(t, d, 0, true, false)
}

// TestFromWithin: who asks from within a worker is told what stands; a worker grants none and closes nothing.
func TestFromWithin(t *testing.T) {
	var d *Driver
	var log []int
	ran := false
	d = New([]func(y *Yield){
		func(y *Yield) {
			for range 2 {
				lives(t, d, 2)
				is(t, d, 0, false, false)
				is(t, d, 1, false, false)
				is(t, d, 2, true, false)
				for k := range 4 {
					grants(t, d, k, false)
				}
				d.Close()
				y.Wait()
			}
			ran = true
		},
		waits(1, 1, &log),
		nil,
	})
	grants(t, d, 2, true)
	grants(t, d, 0, true)
	grants(t, d, 0, true)
	if len(log) != 0 {
		t.Error("another went on", log)
	}
	grants(t, d, 1, true)
	grants(t, d, 0, true)
	if !ran {
		t.Error("closed from within")
	}
	is(t, d, 0, true, false)
	is(t, d, 1, false, false)
	d.Close()
	is(t, d, 1, true, false)
}

func TestNilDriver(t *testing.T) {
	var d *Driver
	for range 2 {
		for _, k := range append([]int{0, 1}, nowhere...) {
			grants(t, d, k, false)
			is(t, d, k, false, false)
		}
		lives(t, d, 0)
		d.Close()
	}
}

func TestNilYield(t *testing.T) {
	var y *Yield
	y.Wait()
	y.Wait()
}

// TestNilYieldInWorker: it is no wait of the worker's.
func TestNilYieldInWorker(t *testing.T) {
	ran := false
	d := New([]func(y *Yield){func(*Yield) {
		var none *Yield
		none.Wait()
		ran = true
	}})
	grants(t, d, 0, true)
	is(t, d, 0, true, false)
	d.Close()
	if !ran {
		t.Error("it waits")
	}
}
