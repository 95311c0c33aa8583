package script

import (
	"runtime"
	"strings"
	"sync"
	"testing"
	"time"

	"folio/api"
	"folio/server"
)

// example is a script, and what Do tells of it.
type example struct{ script, told string }

// examples are the ten of the whole.
func examples() []example {
	return []example{
		{"0 create A/a n=1\n", `ask 0 0 create A/a n=1
answer 0 0 success snap 0 tries 1 stamp 1 tick 0
> made ; A/a 1 1 0 live n=1
`},
		{"0 create A/a n=1\n1 read A/a\npick 0 1\ntick 2\npick 0 0\n", `ask 0 0 create A/a n=1
ask 1 0 read A/a
tick 2
answer 0 0 success snap 0 tries 1 stamp 1 tick 2
> made ; A/a 1 1 2 live n=1
answer 1 0 success snap 0 tries 1
> missing
`},
		{"0 create A/a n=1\n1 once create A/a n=2\npick 0 1 0 1 0 1\n", `ask 0 0 create A/a n=1
ask 1 0 once create A/a n=2
answer 0 0 success snap 0 tries 1 stamp 1 tick 0
> made ; A/a 1 1 0 live n=1
answer 1 0 conflict snap 0 tries 1
`},
		{"0 create A/a n=1\n1 create A/a n=2\npick 0 1 0 1 0 1\n", `ask 0 0 create A/a n=1
ask 1 0 create A/a n=2
answer 0 0 success snap 0 tries 1 stamp 1 tick 0
> made ; A/a 1 1 0 live n=1
answer 1 0 exists at 0 snap 1 tries 2
`},
		{"0 create A/a n=1 ; create A/b n=1\n1 read A/a ; update A/b n=2\n2 read A/b ; update A/a n=2\npick 0 0 0 0 1 2 1 2 1 2 1 2\n", `ask 0 0 create A/a n=1 ; create A/b n=1
answer 0 0 success snap 0 tries 1 stamp 1 tick 0
> made ; A/a 1 1 0 live n=1
> made ; A/b 1 1 0 live n=1
ask 1 0 read A/a ; update A/b n=2
ask 2 0 read A/b ; update A/a n=2
answer 1 0 success snap 1 tries 1 stamp 2 tick 0
> found ; A/a 1 1 0 live n=1
> put ; A/b 2 2 0 live n=2
answer 2 0 success snap 2 tries 2 stamp 3 tick 0
> found ; A/b 2 2 0 live n=2
> put ; A/a 2 3 0 live n=2
`},
		{"0 ensure A/a m=1 ? m=1\n1 ensure A/b m=1 ? m=1\npick 0 1 0 1 0 1 0 1\n", `ask 0 0 ensure A/a m=1 ? m=1
ask 1 0 ensure A/b m=1 ? m=1
answer 0 0 success snap 0 tries 1 stamp 1 tick 0
> made ; A/a 1 1 0 live m=1
answer 1 0 success snap 1 tries 2
> found ; A/a 1 1 0 live m=1
`},
		{"0 create A/a n=1\n0 update A/a n=2\n0 at 1 A/a\npick 0 0 0 0 0 0\nvacuum\n", `ask 0 0 create A/a n=1
answer 0 0 success snap 0 tries 1 stamp 1 tick 0
> made ; A/a 1 1 0 live n=1
ask 0 1 update A/a n=2
answer 0 1 success snap 1 tries 1 stamp 2 tick 0
> put ; A/a 2 2 0 live n=2
vacuum 2 1
ask 0 2 at 1 A/a
answer 0 2 past at 0 snap 2 tries 1
`},
		{"config 1 4 2 0\n0 create A/a\n0 create A/b\n", `ask 0 0 create A/a
answer 0 0 success snap 0 tries 1 stamp 1 tick 0
> made ; A/a 1 1 0 live
ask 0 1 create A/b
answer 0 1 full snap 1 tries 1
`},
		{"0 create @x A/a n=1 ; create B/b r=*@x\n0 delete A/a ; read B/b\n", `ask 0 0 create @x A/a n=1 ; create B/b r=*@x
answer 0 0 success snap 0 tries 1 stamp 1 tick 0
> made ; A/a 1 1 0 live n=1
> made ; B/b 1 1 0 live r=*A/a
ask 0 1 delete A/a ; read B/b
answer 0 1 success snap 1 tries 1 stamp 2 tick 0
> dropped ; A/a 2 2 0 dead
> found ; B/b 1 1 0 live r=*A/a
`},
		{"config 9 4 2 18446744073709551615\n0 create A/a\n", `ask 0 0 create A/a
answer 0 0 full snap 18446744073709551615 tries 1
`},
	}
}

// did is what Do tells of a script that it takes.
func did(t *testing.T, s string) string {
	t.Helper()
	told, line, e := Do(s)
	if line != 0 || e != api.OK {
		t.Fatalf("Do(%.300q): %.300q, %d, %v", s, told, line, e)
	}
	return told
}

// TestExamples is P20.1: the ten examples of the whole, with the last line ended and not.
func TestExamples(t *testing.T) {
	for i, x := range examples() {
		for _, s := range []string{x.script, strings.TrimSuffix(x.script, "\n"), "\n" + x.script + "\n\n#"} {
			if got := did(t, s); got != x.told {
				t.Errorf("example %d: %s, not\n%s", i+1, got, x.told)
			}
		}
	}
}

// TestDoLittle is P20.1: scripts that ask nothing, and a request that isn't fit.
func TestDoLittle(t *testing.T) {
	for s, want := range map[string]string{
		"": "", "\n": "", "#": "", "config 9 4 2 0": "", "pick 0 1 2 3 4 5 6 7": "",
		"vacuum":                               "vacuum 0 0\n",
		"config 9 4 2 7\nvacuum\ntick 0":       "vacuum 7 0\ntick 0\n",
		"tick 5\ntick 1099511627776\ntick 1":   "tick 5\ntick 1099511627776\ntick 1099511627776\n",
		"1 create A/a ; delete A/a":            "ask 1 0 create A/a ; delete A/a\nanswer 1 0 malformed\n",
		"pick 3 0 1\n1 read A/a\npick 0 2 3 1": "ask 1 0 read A/a\nanswer 1 0 success snap 0 tries 1\n> missing\n",
	} {
		if got := did(t, s); got != want {
			t.Errorf("Do(%q): %q; want %q", s, got, want)
		}
	}
}

// does fails unless Do is Parse, server.Run and Tell, one behind the other; answered is whether the script is taken.
func does(t *testing.T, s string) bool {
	t.Helper()
	p, line, e := Parse(s)
	want := ""
	if e == api.OK {
		events, no := server.Run(p)
		if no != api.OK {
			t.Fatalf("%.300q: a play that can't be run, %v", s, no)
		}
		want = Tell(events)
		if want != speltTell(events) {
			t.Fatalf("%.300q: %s, not\n%s", s, want, speltTell(events))
		}
	}
	if got, at, no := Do(s); got != want || at != line || no != e {
		t.Fatalf("Do(%.300q): %s, %d, %v, not\n%s, %d, %v", s, got, at, no, want, line, e)
	}
	return e == api.OK
}

// TestDo is P20.3 and P20.1: what Do refuses, and drawn scripts, whole and hurt.
func TestDo(t *testing.T) {
	for _, line := range broken() {
		for _, s := range []string{line, "\n#\n" + line, "0 read A/a\npick 0\n" + line + "\n" + line} {
			if does(t, s) {
				t.Errorf("%q is taken", s)
			}
		}
	}
	for _, size := range []int{api.MaxScript, api.MaxScript + 1} {
		for _, last := range []string{"#", "\n", "tick 3\n", "fly"} {
			s := strings.Repeat("#", size-len(last)-1) + "\n" + last
			if does(t, s) != (size == api.MaxScript && last != "fly") {
				t.Error(size, last)
			}
		}
	}
	d := &draw{state: 204}
	took, not := 0, 0
	for range 1200 {
		s := strings.Join(d.silent(d.script(8, 8, 40)), "\n")
		if !does(t, s) {
			t.Fatalf("%q is refused", s)
		}
		for range 1 + d.below(3) {
			s = d.hurt(s)
		}
		if does(t, s) {
			took++
		} else {
			not++
		}
	}
	if took < 100 || not < 100 {
		t.Error(took, not)
	}
}

// TestSilent is P20.3: lines that say nothing change nothing but the lines' numbers.
func TestSilent(t *testing.T) {
	d := &draw{state: 205}
	for range 1500 {
		l := d.script(8, 6, 25)
		more := d.silent(l)
		if got, want := did(t, strings.Join(more, "\n")), did(t, strings.Join(l, "\n")); got != want {
			t.Fatalf("%q: %s, not\n%s", more, got, want)
		}
		// A broken line stands as much farther down as there are silent ones ahead of it.
		at := d.below(len(l) + 1)
		words := broken()
		ahead, behind, no := d.silent(l[:at]), d.silent(l[at:]), words[d.below(len(words))]
		s := strings.Join(append(append(append([]string{}, ahead...), no), behind...), "\n")
		silent := 0
		for _, line := range ahead {
			if silentForm.MatchString(line) {
				silent++
			}
		}
		_, line, e := Do(s)
		_, plain, f := Do(strings.Join(append(append(append([]string{}, l[:at]...), no), l[at:]...), "\n"))
		if e != api.ErrLine || f != api.ErrLine || line != plain+silent || plain != at+1 {
			t.Fatalf("%q: line %d, %v; without silent ones %d, %v", s, line, e, plain, f)
		}
	}
}

// TestSideBySide is P20.1 and R2: what Do tells hangs on the script alone, and no goroutine is left.
func TestSideBySide(t *testing.T) {
	d := &draw{state: 206}
	var scripts, told []string
	for range 40 {
		s := strings.Join(d.script(8, 6, 40), "\n")
		scripts, told = append(scripts, s), append(told, did(t, s))
	}
	before := runtime.NumGoroutine()
	defer runtime.GOMAXPROCS(runtime.GOMAXPROCS(0))
	for _, processors := range []int{1, 2, 16} {
		runtime.GOMAXPROCS(processors)
		var all sync.WaitGroup
		for worker := range 12 {
			all.Add(1)
			go func() {
				defer all.Done()
				for i := range scripts {
					// Each its own way through them, so that unlike ones run side by side.
					at := (i*7 + worker*5) % len(scripts)
					if got, _, e := Do(scripts[at]); e != api.OK || got != told[at] {
						t.Errorf("script %d: %v, %s, not\n%s", at, e, got, told[at])
						return
					}
				}
			}()
		}
		all.Wait()
	}
	// One that has said its end may still be on its way out.
	for range 400 {
		if runtime.NumGoroutine() <= before {
			return
		}
		time.Sleep(5 * time.Millisecond)
	}
	t.Error("goroutines:", runtime.NumGoroutine(), "and not", before)
}
