package audit

import (
	"slices"
	"testing"

	"folio/api"
)

// tells fails unless all four functions answer of events, and of their nodes, as they do spelt out; told is what Verify answers.
func tells(t *testing.T, l []api.Event) (bad []int, ok bool, e api.Errno) {
	t.Helper()
	nodes, e := Nodes(l)
	want, no := plainNodes(l)
	if e != no || spelt(nodes) != spelt(want) {
		t.Fatalf("Nodes: %v %.300s, not %v %.300s", e, spelt(nodes), no, spelt(want))
	}
	arranged(t, want)
	bad, ok, e = Verify(l)
	if wantBad, fine, no := plainVerify(l); e != no || ok != fine || !slices.Equal(bad, wantBad) {
		t.Fatalf("Verify: %v %v %v, not %v %v %v", bad, ok, e, wantBad, fine, no)
	}
	return bad, ok, e
}

// arranged fails unless Ahead and Order answer of nodes as they do spelt out; told is how many stand in the order.
func arranged(t *testing.T, l []Node) int {
	t.Helper()
	for a := range l {
		for b := range l {
			if Ahead(l[a], l[b]) != plainAhead(l[a], l[b]) {
				t.Fatalf("Ahead: %.300s and %.300s: not %v", spelt(l[a]), spelt(l[b]), plainAhead(l[a], l[b]))
			}
		}
	}
	order, ok := Order(l)
	if want, fine := plainOrder(l); ok != fine || !slices.Equal(order, want) {
		t.Fatalf("Order: %v %v, not %v %v", order, ok, want, fine)
	}
	return len(order)
}

// Drawn nodes, few and many, in which all that puts one ahead of another happens: P22.1.
func TestDrawnNodes(t *testing.T) {
	d := &draw{state: 221}
	drawn := map[int]int{}
	unstuck := 0
	for i := range 20000 {
		var l []Node
		for range d.below(2 + i%6) {
			l = append(l, d.node())
		}
		told := arranged(t, l)
		if drawn[told]++; len(l) > 1 && told > 0 && !slices.IsSorted(first(Order(l))) {
			unstuck++
		}
	}
	for n := range 4 {
		if drawn[n] < 300 {
			t.Errorf("orders of %d nodes were drawn %d times", n, drawn[n])
		}
	}
	if unstuck < 1000 {
		t.Errorf("%d orders have a later one ahead", unstuck)
	}
}

func first(order []int, _ bool) []int { return order }

// Drawn nodes that are asked and answered by turns, so that many have an order: P22.1.
func TestDrawnOrders(t *testing.T) {
	d := &draw{state: 222}
	long := 0
	for range 3000 {
		var l []Node
		for i := range d.below(14) {
			n := d.node()
			n.Asked, n.Answered = i*2+d.below(9), i*2+d.below(9)+2
			n.Answer.Snap, n.Answer.Stamp = uint64(i/2+d.below(3)), uint64(i/2+3+d.below(6))
			l = append(l, n)
		}
		for i := range l {
			j := i + d.below(len(l)-i)
			l[i], l[j] = l[j], l[i]
		}
		if arranged(t, l) > 4 {
			long++
		}
	}
	if long < 200 {
		t.Error(long)
	}
}

// Drawn runs, as they are told and turned in one place and in several: P22.1.
func TestDrawnEvents(t *testing.T) {
	d := &draw{state: 223}
	drawn := map[string]int{}
	for i := range 1500 {
		l := ran(t, d.play(t, configs()[i%len(configs())], 4, 5, 60))
		tells(t, l)
		for range 12 {
			l = d.turn(l)
			switch bad, ok, e := tells(t, l); {
			case e != api.OK:
				drawn["refused"]++
			case !ok:
				drawn["stuck"]++
			case len(bad) > 1:
				drawn["bad"]++
			case len(bad) == 1:
				drawn["one bad"]++
			default:
				drawn["fine"]++
			}
			if !plainProper(l) {
				break
			}
		}
	}
	for _, what := range []string{"refused", "stuck", "bad", "one bad", "fine"} {
		if drawn[what] < 200 {
			t.Errorf("%s was drawn %d times", what, drawn[what])
		}
	}
}

// Drawn events of proper asks and answers, with any answers: P22.1.
func TestDrawnAnswers(t *testing.T) {
	d := &draw{state: 224}
	had := map[string]int{}
	for range 4000 {
		var next [3]int
		var l []api.Event
		for range d.below(24) {
			client := d.below(3)
			e := ask(client, next[client]/2)
			if e.Request = d.request(t, 2); next[client]%2 == 1 {
				e = answer(client, next[client]/2, []int{1, 1, 1, 1, 2, 3, 4, 5, 6, 7, 10, 0}[d.below(12)])
				e.Answer.Snap, e.Answer.Stamp, e.Marks = d.near(), d.near(), d.anyMarks()
				for range d.below(8) {
					e.Answer.Replies = append(e.Answer.Replies, d.anyReply())
				}
			}
			next[client]++
			l = append(l, e)
		}
		tells(t, l)
		for _, n := range nodesOf(t, l) {
			for _, c := range n.Changes {
				had["changes"]++
				if c.WasLive {
					had["was"]++
				}
			}
		}
	}
	if had["changes"] < 3000 || had["was"] < 500 {
		t.Error(had)
	}
}

// What is answered hangs on nothing but the arguments: R2, on the same many times over, since maps are gone through in another order each time.
func TestSameAnswers(t *testing.T) {
	d := &draw{state: 225}
	for i := range 30 {
		l := ran(t, d.play(t, configs()[i%2], 8, 6, 80))
		for range 3 {
			l = d.turn(l)
		}
		nodes, e := Nodes(l)
		order, ok := Order(nodes)
		bad, fine, _ := Verify(l)
		for range 20 {
			again, other := Nodes(l)
			if other != e || spelt(again) != spelt(nodes) {
				t.Fatal("Nodes")
			}
			if o, same := Order(again); same != ok || !slices.Equal(o, order) {
				t.Fatal("Order")
			}
			if b, same, _ := Verify(l); same != fine || !slices.Equal(b, bad) {
				t.Fatal("Verify")
			}
		}
	}
}
