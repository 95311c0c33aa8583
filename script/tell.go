package script

import (
	"strconv"
	"strings"

	"folio/api"
	"folio/op"
	"folio/value"
)

// unknown stands for what has no word.
const unknown = "?"

// tell writes what is told of an event.
func tell(w *strings.Builder, e api.Event) {
	w.WriteString(eventLine(e))
	w.WriteString(end)
	if e.Kind != api.EvAnswer {
		return
	}
	for _, r := range e.Answer.Replies {
		w.WriteString(joined(">", kind(r.Kind)))
		for _, f := range r.List {
			w.WriteString(" ; ")
			w.WriteString(find(f))
		}
		w.WriteString(end)
	}
}

// eventLine is the line of an event, without those of replies.
func eventLine(e api.Event) string {
	client, number := strconv.Itoa(e.Client), strconv.Itoa(e.Number)
	switch e.Kind {
	case api.EvAsk:
		return joined(wordAsk, client, number, request(e.Request))
	case api.EvAnswer:
		return joined(wordAnswer, client, number, answer(e.Answer))
	case api.EvTick:
		return joined(wordTick, strconv.FormatInt(e.Tick, 10))
	case api.EvVacuum:
		return joined(wordVacuum, strconv.FormatUint(e.Floor, 10), strconv.Itoa(e.Removed))
	}
	return unknown
}

// request is the line of any request.
func request(r api.Request) string {
	words, e := op.Print(r)
	if e != api.OK {
		return unknown
	}
	return words
}

// answer is the words of an answer, without its replies.
func answer(a api.Answer) string {
	words := []string{status(a.Status)}
	if api.Exists <= a.Status && a.Status <= api.Unfit || a.Status == api.Past {
		words = append(words, "at", strconv.Itoa(a.At))
	}
	if a.Status != api.Malformed {
		words = append(words, "snap", strconv.FormatUint(a.Snap, 10), "tries", strconv.Itoa(a.Tries))
	}
	if a.Stamp != 0 {
		words = append(words, "stamp", strconv.FormatUint(a.Stamp, 10), "tick", strconv.FormatInt(a.Tick, 10))
	}
	return joined(words...)
}

// find is the words of a key with one of its versions.
func find(f api.Found) string {
	k, v := f.Key, f.Version
	life := "dead"
	if v.Live {
		life = "live"
	}
	key := value.Write(k.Type) + "/" + value.Write(k.ID)
	words := []string{key, strconv.Itoa(v.Number), strconv.FormatUint(v.Stamp, 10), strconv.FormatInt(v.Tick, 10), life}
	for _, field := range v.Value {
		for _, text := range field.Texts {
			words = append(words, value.Write(field.Name)+"="+value.Write(text))
		}
	}
	return joined(words...)
}

// status is the word of an answer's Status.
func status(n int) string {
	return word(n, "success", "exists", "mismatch", "absent", "several", "unfit", "conflict", "tired", "full", "past", "malformed")
}

// kind is the word of a reply's Kind.
func kind(n int) string {
	return word(n, "found", "made", "put", "dropped", "missing", "deleted", "list")
}

// word is the one that a number stands for, which counts them from 1.
func word(n int, words ...string) string {
	if n < 1 || n > len(words) {
		return unknown
	}
	return words[n-1]
}
