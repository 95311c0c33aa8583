package turn

import (
	"errors"
	"runtime"
	"slices"
	"testing"
)

// zero, noList and noMap are what breaks off by the language's own panics.
var (
	zero   = 0
	noList []int
	noMap  map[int]int
)

// breaks are ways to break off.
func breaks() map[string]func(y *Yield) {
	return map[string]func(y *Yield){
		"text":         func(*Yield) { panic("x") },
		"empty text":   func(*Yield) { panic("") },
		"number":       func(*Yield) { panic(0) },
		"error":        func(*Yield) { panic(errors.New("x")) },
		"nil":          func(*Yield) { panic(nil) },
		"typed nil":    func(*Yield) { panic((*Yield)(nil)) },
		"struct":       func(*Yield) { panic(struct{}{}) },
		"list":         func(*Yield) { panic([]int{1}) },
		"map":          func(*Yield) { panic(map[int]int{}) },
		"function":     func(*Yield) { panic(func() {}) },
		"array":        func(*Yield) { panic([1]any{[]int{}}) },
		"yield":        func(y *Yield) { panic(y) },
		"yield within": func(y *Yield) { panic(*y) },
		"division":     func(*Yield) { zero /= zero },
		"index":        func(*Yield) { noList[zero]++ },
		"nil map":      func(*Yield) { noMap[zero]++ },
		"nil call":     func(*Yield) { (func())(nil)() },
		"closed twice": func(*Yield) { c := make(chan int); close(c); close(c) },
		"deferred":     func(*Yield) { defer func() { panic("late") }() },
		"twice": func(*Yield) {
			defer func() { panic("late") }()
			panic("x")
		},
		"thrown on": func(*Yield) {
			defer func() { panic(recover()) }()
			panic("x")
		},
	}
}

// TestBreaks: a worker that panics, at its begin or behind its waits, has ended broken; no other sees it.
func TestBreaks(t *testing.T) {
	for what, f := range breaks() {
		for waited := range 3 {
			var log []int
			d := New([]func(y *Yield){waits(0, 3, &log), func(y *Yield) {
				for range waited {
					y.Wait()
				}
				f(y)
				log = append(log, -1)
			}, nil})
			grants(t, d, 0, true)
			for range waited + 1 {
				is(t, d, 1, false, false)
				grants(t, d, 1, true)
			}
			is(t, d, 1, true, true)
			lives(t, d, 2)
			grants(t, d, 1, false)
			grants(t, d, 0, true)
			is(t, d, 0, false, false)
			grants(t, d, 2, true)
			is(t, d, 2, true, false)
			d.Close()
			is(t, d, 0, true, false)
			is(t, d, 1, true, true)
			is(t, d, 2, true, false)
			if !slices.Equal(log, []int{0, 0}) {
				t.Error(log)
			}
			if t.Failed() {
				t.Fatal(what, waited)
			}
		}
	}
}

// TestCaughtWithin: a panic that the function itself recovers from ends nothing.
func TestCaughtWithin(t *testing.T) {
	for what, f := range breaks() {
		log := ""
		d := New([]func(y *Yield){func(y *Yield) {
			func() {
				defer func() {
					if recover() != nil {
						log += "caught"
					}
				}()
				f(y)
			}()
			y.Wait()
			log += " on"
		}})
		grants(t, d, 0, true)
		is(t, d, 0, false, false)
		grants(t, d, 0, true)
		is(t, d, 0, true, false)
		if log != "caught on" {
			t.Fatal(what, log)
		}
	}
}

// TestDeferredWhenBroken: what was deferred is called ahead of the Grant's end, and may wait.
func TestDeferredWhenBroken(t *testing.T) {
	log := ""
	d := New([]func(y *Yield){func(y *Yield) {
		defer func() { log += "c" }()
		defer func() {
			log += "a"
			y.Wait()
			log += "b"
		}()
		panic("x")
	}})
	grants(t, d, 0, true)
	is(t, d, 0, false, false)
	lives(t, d, 1)
	if log != "a" {
		t.Error(log)
	}
	grants(t, d, 0, true)
	is(t, d, 0, true, true)
	if log != "abc" {
		t.Error(log)
	}
}

// TestGoexit: a function that leaves its goroutine has ended, by no panic.
func TestGoexit(t *testing.T) {
	for waited := range 3 {
		log := ""
		d := New([]func(y *Yield){func(y *Yield) {
			defer func() { log += "!" }()
			for range waited {
				y.Wait()
			}
			runtime.Goexit()
			log += "on"
		}})
		for range waited + 1 {
			is(t, d, 0, false, false)
			grants(t, d, 0, true)
		}
		is(t, d, 0, true, false)
		grants(t, d, 0, false)
		d.Close()
		if log != "!" {
			t.Error(log)
		}
	}
}

// TestAllBroken: each may be broken, and the driver still closes.
func TestAllBroken(t *testing.T) {
	var fs []func(y *Yield)
	for _, f := range breaks() {
		fs = append(fs, f)
	}
	d := New(fs)
	for k := range 16 {
		grants(t, d, k, true)
		is(t, d, k, true, true)
		lives(t, d, 15-k)
	}
	d.Close()
	lives(t, d, 0)
	is(t, d, 15, true, true)
}
