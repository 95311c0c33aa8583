package audit

import (
	"slices"

	"folio/api"
)

// own is a list in memory of its own, each of whose elements is made so by f.
func own[T any](l []T, f func(T) T) []T {
	l = slices.Clone(l)
	for i := range l {
		l[i] = f(l[i])
	}
	return l
}

// ownRequest is any request, fit or not, in memory of its own.
func ownRequest(r api.Request) api.Request {
	r.Entries = own(r.Entries, ownEntry)
	return r
}

func ownEntry(e api.Entry) api.Entry {
	e.Value, e.Edits, e.Pred = own(e.Value, ownField), slices.Clone(e.Edits), slices.Clone(e.Pred)
	return e
}

func ownField(f api.Field) api.Field {
	f.Texts = slices.Clone(f.Texts)
	return f
}

// ownAnswer is an answer in memory of its own.
func ownAnswer(a api.Answer) api.Answer {
	a.Replies = own(a.Replies, ownReply)
	return a
}

func ownReply(r api.Reply) api.Reply {
	r.List = own(r.List, ownFound)
	return r
}

func ownFound(f api.Found) api.Found {
	f.Version.Value = own(f.Version.Value, ownField)
	return f
}

// ownMarks are marks in memory of their own.
func ownMarks(m api.Marks) api.Marks {
	return api.Marks{Keys: slices.Clone(m.Keys), Ranges: own(m.Ranges, ownRange)}
}

func ownRange(r api.Range) api.Range {
	r.Pred = slices.Clone(r.Pred)
	return r
}
