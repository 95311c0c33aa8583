package audit

import (
	"slices"

	"folio/api"
)

// sameAnswer says whether the model's answer is that of a run. The model has no snapshots and tries nothing again.
func sameAnswer(a, b api.Answer) bool {
	return a.Status == b.Status && a.At == b.At && a.Stamp == b.Stamp && a.Tick == b.Tick && slices.EqualFunc(a.Replies, b.Replies, sameReply)
}

func sameReply(a, b api.Reply) bool {
	return a.Kind == b.Kind && slices.EqualFunc(a.List, b.List, sameFound)
}

func sameFound(a, b api.Found) bool {
	v, w := a.Version, b.Version
	return a.Key == b.Key && v.Number == w.Number && v.Stamp == w.Stamp && v.Tick == w.Tick && v.Live == w.Live && slices.EqualFunc(v.Value, w.Value, sameField)
}

func sameField(a, b api.Field) bool { return a.Name == b.Name && slices.Equal(a.Texts, b.Texts) }
