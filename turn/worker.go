package turn

// worker is a function in a goroutine of its own, once it has begun.
type worker struct {
	work   func(y *Yield)
	yield  *Yield // nil till it begins.
	ended  bool
	broken bool
}

// goOn lets the worker go on until it waits or has ended.
func (w *worker) goOn() {
	if w.yield == nil {
		w.yield = &Yield{grants: make(chan struct{}), waits: make(chan struct{})}
		go w.run()
	} else {
		w.yield.grants <- struct{}{}
	}
	_, waiting := <-w.yield.waits
	w.ended = !waiting
}

// run does the worker's work, and tells the end of it however it comes.
func (w *worker) run() {
	defer func() {
		thrown := recover()
		w.broken = thrown != nil && thrown != any(unwound{w.yield})
		close(w.yield.waits)
	}()
	if w.work != nil {
		w.work(w.yield)
	}
}

// stop ends the worker, and waits until it has ended.
func (w *worker) stop() {
	if w.yield != nil && !w.ended {
		close(w.yield.grants)
		// A function that recovers from being unwound may wait again, and is unwound again then.
		for range w.yield.waits {
		}
	}
	w.ended = true
}
