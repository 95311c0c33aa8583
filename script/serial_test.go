package script

import (
	"cmp"
	"fmt"
	"regexp"
	"slices"
	"strconv"
	"strings"
	"testing"

	"folio/api"
	"folio/op"
)

// said is what is told of one request, read again from the text.
type said struct {
	client, number  int
	asked, answered int // the lines' places
	request         api.Request
	status          string
	at, tries       int
	snap, stamp     uint64
	tick            int64
	replies         []string
}

// The lines that are told of requests.
var (
	askForm    = regexp.MustCompile(`\Aask ([0-7]) (\d+) (.*)\z`)
	answerForm = regexp.MustCompile(`\Aanswer ([0-7]) (\d+) ([a-z]+)(?: at (\d+))?(?: snap (\d+) tries (\d+))?(?: stamp (\d+) tick (\d+))?\z`)
	drivenForm = regexp.MustCompile(`\A(tick \d+|vacuum \d+ \d+)\z`)
)

// count is a number that a form has taken, 0 if it had none to take.
func count(word string) uint64 {
	n, _ := strconv.ParseUint(word, 10, 64)
	return n
}

// heard reads again what is told: of each client its requests, in order. It fails where a line is none, or a request isn't asked ahead of its answer, once, and behind the answer to the one ahead of it.
func heard(t *testing.T, told string) [api.MaxClients][]*said {
	t.Helper()
	var all [api.MaxClients][]*said
	var open [api.MaxClients]*said
	var last *said // the request whose answer was told last, behind which no other event was told
	for place, line := range strings.Split(strings.TrimSuffix(told, "\n"), "\n") {
		if strings.HasPrefix(line, ">") && last != nil {
			last.replies = append(last.replies, line)
			continue
		}
		last = nil
		if m := askForm.FindStringSubmatch(line); m != nil {
			n := int(count(m[1]))
			r, e := op.Parse(m[3])
			if open[n] != nil || count(m[2]) != uint64(len(all[n])) || e != api.OK {
				t.Fatalf("%s: in\n%s", line, told)
			}
			open[n] = &said{client: n, number: len(all[n]), asked: place, request: r}
			all[n] = append(all[n], open[n])
		} else if m := answerForm.FindStringSubmatch(line); m != nil {
			last = open[count(m[1])]
			if last == nil || count(m[2]) != uint64(last.number) {
				t.Fatalf("%s: in\n%s", line, told)
			}
			open[last.client] = nil
			last.answered, last.status, last.at = place, m[3], int(count(m[4]))
			last.snap, last.tries, last.stamp, last.tick = count(m[5]), int(count(m[6])), count(m[7]), int64(count(m[8]))
		} else if told != "" && !drivenForm.MatchString(line) {
			t.Fatalf("%s: in\n%s", line, told)
		}
	}
	for _, left := range open {
		if left != nil {
			t.Fatalf("client %d has no answer in\n%s", left.client, told)
		}
	}
	return all
}

// placed are the words of those statuses that have a place in the order.
const placed = " success exists mismatch absent several unfit "

// search looks for an order of requests in which a world answers the same, one after the other.
type search struct {
	world world
	left  [api.MaxClients][]*said // of each client those that are not yet placed
	tried map[string]bool         // how many of each were left, where no order was found
}

// serial says whether there is an order of all requests that have a place in it.
func serial(all [api.MaxClients][]*said) bool {
	s := &search{world: world{}, tried: map[string]bool{}}
	for n, l := range all {
		for _, r := range l {
			if strings.Contains(placed, " "+r.status+" ") {
				s.left[n] = append(s.left[n], r)
			}
		}
	}
	return s.order()
}

// order says whether those that are left can be put in an order.
func (s *search) order() bool {
	was := s.left
	s.readers()
	var writers []*said
	none := true
	for _, l := range s.left {
		if len(l) > 0 {
			none = false
			if l[0].stamp != 0 {
				writers = append(writers, l[0])
			}
		}
	}
	if none {
		return true
	}
	// Most often they stand in the order of their stamps.
	slices.SortFunc(writers, func(a, b *said) int { return cmp.Compare(a.stamp, b.stamp) })
	lengths := s.lengths()
	if !s.tried[lengths] {
		s.tried[lengths] = true
		if slices.ContainsFunc(writers, s.writer) {
			return true
		}
	}
	s.left = was
	return false
}

// lengths are how many of each client are left, in words: what is placed says what the world is, in whatever order.
func (s *search) lengths() string {
	var words []string
	for _, l := range s.left {
		words = append(words, strconv.Itoa(len(l)))
	}
	return strings.Join(words, " ")
}

// readers places all that write nothing and can be placed: no order is lost by that, since they change nothing.
func (s *search) readers() {
	for again := true; again; {
		again = false
		for n, l := range s.left {
			if len(l) > 0 && l[0].stamp == 0 && s.may(l[0]) && s.fits(l[0], nil) {
				s.left[n] = l[1:]
				again = true
			}
		}
	}
}

// writer says whether those that are left can be put in an order that begins with one that writes.
func (s *search) writer(r *said) bool {
	var written map[api.Key]api.Version
	if !s.may(r) || !s.fits(r, &written) || len(written) == 0 || !s.world.put(written) {
		return false
	}
	s.left[r.client] = s.left[r.client][1:]
	if s.order() {
		return true
	}
	s.left[r.client] = append([]*said{r}, s.left[r.client]...)
	s.world.take(written)
	return false
}

// may says whether none is left that was answered ahead of a request's beginning.
func (s *search) may(r *said) bool {
	for _, l := range s.left {
		if len(l) > 0 && l[0].answered < r.asked {
			return false
		}
	}
	return true
}

// fits says whether the world, as it is, answers a request as it was answered; and what it writes.
func (s *search) fits(r *said, written *map[api.Key]api.Version) bool {
	got := s.world.does(r.request.Entries, r.stamp, r.tick)
	if written != nil {
		*written = got.written
	} else if len(got.written) > 0 {
		return false
	}
	return got.status == r.status && got.at == r.at && slices.Equal(got.replies, r.replies)
}

// runs fails unless a script that is taken runs to its end, each request is answered once, and what is told is serial: P1 and P5.
func runs(t *testing.T, s string) [api.MaxClients][]*said {
	t.Helper()
	p, told := parsed(t, s), did(t, s)
	all := heard(t, told)
	busy := 0
	for n, l := range all {
		asked := 0
		if n < len(p.Clients) {
			asked = len(p.Clients[n])
		}
		if len(l) != asked {
			t.Fatalf("client %d asks %d and not %d in\n%s", n, len(l), asked, told)
		}
		for i, r := range l {
			if !op.Equal(r.request, p.Clients[n][i]) {
				t.Fatalf("client %d asks another %d in\n%s", n, i, told)
			}
		}
		busy += min(asked, 1)
	}
	if !serial(all) {
		t.Fatalf("not serial: %q tells\n%s", s, told)
	}
	for _, l := range all {
		for _, r := range l {
			if busy == 1 && (r.status == "conflict" || r.status == "tired" || r.tries > 1) {
				t.Fatalf("alone: %q tells\n%s", s, told)
			}
		}
	}
	return all
}

// TestSerialExamples is P1: the ten examples of the whole are serial, and what is turned in them isn't: else the tests of P1 would say nothing.
func TestSerialExamples(t *testing.T) {
	turned := 0
	for _, x := range examples() {
		runs(t, x.script)
		for _, line := range strings.Split(x.told, "\n") {
			other := turn(line)
			if other == line {
				continue
			}
			turned++
			if told := strings.Replace(x.told, line, other, 1); serial(heard(t, told)) {
				t.Errorf("serial:\n%s", told)
			}
		}
	}
	if turned < 12 {
		t.Error(turned)
	}
	// A ring of two, each of which hasn't seen what the other one has written; and an order that isn't the run's own.
	for told, want := range map[string]bool{
		"ask 0 0 read A/a ; update A/b\nask 1 0 read A/b ; update A/a\nanswer 0 0 success snap 0 tries 1 stamp 1 tick 0\n> missing\n> made ; A/b 1 1 0 live\nanswer 1 0 success snap 0 tries 1 stamp 2 tick 0\n> missing\n> made ; A/a 1 2 0 live\n": false,
		"ask 0 0 read A/a ; update A/b\nask 1 0 read A/c ; update A/a\nanswer 0 0 success snap 0 tries 1 stamp 1 tick 0\n> missing\n> made ; A/b 1 1 0 live\nanswer 1 0 success snap 0 tries 1 stamp 2 tick 0\n> missing\n> made ; A/a 1 2 0 live\n": true,
		"ask 0 0 update A/a\nask 1 0 read A/a ; update A/b\nanswer 0 0 success snap 0 tries 1 stamp 1 tick 0\n> made ; A/a 1 1 0 live\nanswer 1 0 success snap 0 tries 1 stamp 2 tick 0\n> missing\n> made ; A/b 1 2 0 live\n":                       true,
		"ask 0 0 update A/a\nanswer 0 0 success snap 0 tries 1 stamp 1 tick 0\n> made ; A/a 1 1 0 live\nask 1 0 read A/a ; update A/b\nanswer 1 0 success snap 0 tries 1 stamp 2 tick 0\n> missing\n> made ; A/b 1 2 0 live\n":                       false,
		"ask 0 0 update A/a\nanswer 0 0 success snap 0 tries 1 stamp 1 tick 0\n> made ; A/a 1 1 0 live\nask 1 0 read A/a\nanswer 1 0 success snap 0 tries 1\n> missing\n":                                                                            false,
	} {
		if got := serial(heard(t, told)); got != want {
			t.Errorf("serial is %v:\n%s", got, told)
		}
	}
}

// turn is a line of a reply that tells something else, or any other line as it is.
func turn(line string) string {
	if line == "> missing" {
		return "> list"
	}
	if m := regexp.MustCompile(`\A(> [a-z]+ ; \S+) (\d+)(.*)\z`).FindStringSubmatch(line); m != nil {
		return fmt.Sprintf("%s %d%s", m[1], count(m[2])+1, m[3])
	}
	return line
}

// TestSerialDrawn is P1 and P5: drawn scripts, with few clients and many, much room and little.
func TestSerialDrawn(t *testing.T) {
	d := &draw{state: 207}
	had := map[string]int{}
	for i := range 2500 {
		all := runs(t, strings.Join(d.script(1+i%8, 8, 60), "\n"))
		for _, l := range all {
			for _, r := range l {
				had[r.status]++
				had["tries "+strconv.Itoa(r.tries)]++
			}
		}
	}
	for _, what := range strings.Fields("success exists mismatch absent several unfit conflict tired full past malformed") {
		if had[what] < 40 {
			t.Errorf("%s was told %d times", what, had[what])
		}
	}
	for _, what := range []string{"tries 0", "tries 1", "tries 2", "tries 3", "tries 4"} {
		if had[what] < 20 {
			t.Errorf("%s were told %d times", what, had[what])
		}
	}
}

// TestSerialHurt is P1 and P5 for every text: it is refused with a line, or runs to its end, and what it tells is serial.
func TestSerialHurt(t *testing.T) {
	d := &draw{state: 208}
	took, not := 0, 0
	for range 6000 {
		s := strings.Join(d.silent(d.script(6, 5, 25)), "\n")
		for range 1 + d.below(6) {
			s = d.hurt(s)
		}
		told, line, e := Do(s)
		if e == api.OK {
			runs(t, s)
			took++
			continue
		}
		not++
		if told != "" || e != api.ErrLine || line < 1 || line > strings.Count(s, "\n")+1 {
			t.Fatalf("Do(%q): %q, %d, %v", s, told, line, e)
		}
	}
	if took < 500 || not < 500 {
		t.Error(took, not)
	}
}

// TestSerialLong is P1 and P5: scripts of as many bytes as there can be.
func TestSerialLong(t *testing.T) {
	d := &draw{state: 209}
	for i := range 12 {
		l := []string{[]string{"config 4096 64 8 0", "config 200 5 2 0", "config 4096 2 3 9"}[i%3]}
		var asked [api.MaxClients]int
		size, actions := len(l[0])+1, 0
		for {
			line := d.action(api.MaxClients)
			if n := d.below(api.MaxClients); d.below(3) > 0 && asked[n] < api.MaxRequests {
				line = strconv.Itoa(n) + " " + d.request(1+i)
				asked[n]++
			} else if actions += strings.Count(line, " ") + 1; actions > api.MaxActions {
				line = "#"
			}
			if size += len(line) + 1; size > api.MaxScript {
				break
			}
			l = append(l, line)
		}
		runs(t, strings.Join(l, "\n"))
	}
}

// meeting are requests that get into each other's way.
func meeting() []string {
	return []string{
		"read A/a ; update A/b n=1", "read A/b ; update A/a n=2", "search A n=1 ; create A/c n=1", "search A n=2 ; update A/d n=1",
		"ensure A/e n=1 ? n=1", "ensure @x A/f n=2 r=*@x ? r?", "delete A/a ; read A/b", "patch A/a n:=2 ; number A/b 1", "since A 0 ; update A/a n=3", "find 9 A n? ; delete A/b", "read A/a ; read A/b", "search A",
	}
}

// TestSerialWoven is P1: pairs and triples of requests that get into each other's way, picked in many orders.
func TestSerialWoven(t *testing.T) {
	d := &draw{state: 210}
	l := meeting()
	for i, one := range l {
		for j, two := range l {
			for k := range 12 {
				lines := []string{
					d.of("config 40 4 3 0", "config 40 0 8 2", "config 40 64 1 0"),
					"0 create A/a n=1 ; create A/b n=2", "0 " + one, "1 " + two, "2 " + l[(i+5*j+k)%len(l)], "2 " + l[(j+k)%len(l)],
					"pick 0 0 0 0",
				}
				for range 14 {
					lines = append(lines, "pick "+d.of("0", "1", "2"))
				}
				if d.below(3) == 0 {
					lines = append(lines[:9+k:9+k], append([]string{"vacuum"}, lines[9+k:]...)...)
				}
				runs(t, strings.Join(lines, "\n"))
			}
		}
	}
}
