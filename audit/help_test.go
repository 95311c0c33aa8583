package audit

import (
	"reflect"
	"strconv"
	"strings"
	"testing"

	"folio/api"
	"folio/op"
	"folio/script"
	"folio/server"
)

func key(typ, id string) api.Key { return api.Key{Type: typ, ID: id} }

func one(name string, texts ...string) api.Field { return api.Field{Name: name, Texts: texts} }

func row(fields ...api.Field) []api.Field { return fields }

func live(k api.Key, v ...api.Field) api.Found {
	return api.Found{Key: k, Version: api.Version{Live: true, Value: v}}
}

func dead(k api.Key) api.Found { return api.Found{Key: k} }

func reply(kind int, l ...api.Found) api.Reply { return api.Reply{Kind: kind, List: l} }

// parsed is the request of a line.
func parsed(t *testing.T, line string) api.Request {
	t.Helper()
	r, e := op.Parse(line)
	if e != api.OK {
		t.Fatalf("%q: %v", line, e)
	}
	return r
}

// ran are the events of a play.
func ran(t *testing.T, p api.Play) []api.Event {
	t.Helper()
	l, e := server.Run(p)
	if e != api.OK {
		t.Fatal(e)
	}
	return l
}

// played are the events of a script.
func played(t *testing.T, text string) []api.Event {
	t.Helper()
	p, line, e := script.Parse(text)
	if e != api.OK {
		t.Fatalf("%.300q: line %d: %v", text, line, e)
	}
	return ran(t, p)
}

// nodesOf are the nodes of proper events.
func nodesOf(t *testing.T, l []api.Event) []Node {
	t.Helper()
	n, e := Nodes(l)
	if e != api.OK {
		t.Fatal(e)
	}
	return n
}

// spelt is all of a thing in words; a list without elements is the same whether it is nil or not.
func spelt(x any) string {
	var words strings.Builder
	spell(&words, reflect.ValueOf(x))
	return words.String()
}

func spell(words *strings.Builder, v reflect.Value) {
	switch v.Kind() {
	case reflect.Struct:
		words.WriteByte('{')
		for i := range v.NumField() {
			spell(words, v.Field(i))
		}
		words.WriteByte('}')
	case reflect.Slice:
		words.WriteByte('[')
		for i := range v.Len() {
			spell(words, v.Index(i))
		}
		words.WriteByte(']')
	case reflect.String:
		words.WriteString(strconv.Quote(v.String()))
	case reflect.Bool:
		words.WriteString(strconv.FormatBool(v.Bool()) + " ")
	case reflect.Uint64:
		words.WriteString(strconv.FormatUint(v.Uint(), 10) + " ")
	default:
		words.WriteString(strconv.FormatInt(v.Int(), 10) + " ")
	}
}

// Unlike things are spelt in unlike words: else the tests would say less.
func TestSpelt(t *testing.T) {
	unlike := []any{
		row(one("a"), one("b")), row(one("a", "b")), row(one("a", "")), row(one("a b")), row(one("a", "b c")), row(one("a", "b", "c")),
		Node{Client: 1}, Node{Number: 1}, Node{Asked: 1}, Node{Answered: 1}, Node{Answer: api.Answer{Status: 1}}, Node{Answer: api.Answer{At: 1}},
		Node{Answer: api.Answer{Snap: 1}}, Node{Changes: []api.Change{{}}}, Node{Changes: []api.Change{{WasLive: true}}}, Node{Changes: []api.Change{{IsLive: true}}},
	}
	seen := map[string]int{}
	for i, x := range unlike {
		if seen[spelt(x)]++; seen[spelt(x)] > 1 {
			t.Error(i, spelt(x))
		}
	}
	if spelt(Node{}) != spelt(Node{Changes: []api.Change{}}) {
		t.Error("a list without elements")
	}
}
