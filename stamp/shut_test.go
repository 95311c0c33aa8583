package stamp

import (
	"sync"
	"sync/atomic"
	"testing"
	"time"
)

func TestDoOnce(t *testing.T) {
	s, first, second := NewShut(), 0, 0
	if s.Done() {
		t.Error("done ahead of any Do")
	}
	if !s.Do(func() { first++ }) {
		t.Error("the first Do is false")
	}
	if !s.Done() {
		t.Error("not done behind the first Do")
	}
	for range 3 {
		if s.Do(func() { second++ }) {
			t.Error("a later Do is true")
		}
	}
	if first != 1 || second != 0 || !s.Done() {
		t.Error(first, second, s.Done())
	}
}

func TestDoNothing(t *testing.T) {
	s, n := NewShut(), 0
	if !s.Do(nil) || !s.Done() {
		t.Error("a nil function isn't done")
	}
	if s.Do(nil) || s.Do(func() { n++ }) || n != 0 || !s.Done() {
		t.Error("done twice", n)
	}
	s = NewShut()
	if !s.Do(func() { n++ }) || s.Do(nil) || n != 1 {
		t.Error("a nil function behind another", n)
	}
}

func TestNotDoneWithinDo(t *testing.T) {
	s, within := NewShut(), true
	s.Do(func() { within = s.Done() })
	if within {
		t.Error("done while the function goes on")
	}
}

func TestShutsAreApart(t *testing.T) {
	a, b := NewShut(), NewShut()
	if !a.Do(nil) || b.Done() || !b.Do(nil) {
		t.Error("one Shut is done by another's Do")
	}
}

// TestDoWaits: a Do that isn't the first one ends only when the first one's function has.
func TestDoWaits(t *testing.T) {
	s := NewShut()
	begun, release := make(chan int), make(chan int)
	var ended atomic.Bool
	var all sync.WaitGroup
	all.Go(func() {
		s.Do(func() {
			close(begun)
			<-release
			ended.Store(true)
		})
	})
	<-begun
	answered := make(chan int, 3)
	for range cap(answered) {
		all.Go(func() {
			if s.Do(func() { t.Error("called twice") }) {
				t.Error("true twice")
			}
			if !ended.Load() || !s.Done() {
				t.Error("answered ahead of the function's end")
			}
			answered <- 1
		})
	}
	select {
	case <-answered:
		t.Error("did not wait")
	case <-time.After(20 * time.Millisecond):
	}
	if s.Done() {
		t.Error("done while the function goes on")
	}
	close(release)
	all.Wait()
	if !s.Done() {
		t.Error("not done")
	}
}

func TestDoTogether(t *testing.T) {
	for range 200 {
		s := NewShut()
		var calls, trues, late atomic.Int64
		var all sync.WaitGroup
		for range 16 {
			all.Go(func() {
				if s.Do(func() { calls.Add(1) }) {
					trues.Add(1)
				}
				if !s.Done() {
					late.Add(1)
				}
			})
		}
		all.Wait()
		if calls.Load() != 1 || trues.Load() != 1 || late.Load() != 0 {
			t.Fatal(calls.Load(), trues.Load(), late.Load())
		}
	}
}

func TestNilShut(t *testing.T) {
	var s *Shut
	n := 0
	if s.Do(nil) || s.Do(func() { n++ }) || n != 0 || s.Done() {
		t.Error("a nil Shut does something", n)
	}
}

func TestZeroShut(t *testing.T) {
	var s Shut
	n := 0
	if s.Done() || !s.Do(func() { n++ }) || s.Do(func() { n++ }) || !s.Done() || n != 1 {
		t.Error("the zero Shut isn't a new one", n)
	}
}
