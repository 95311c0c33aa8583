package op

import (
	"folio/api"
	"folio/name"
	"folio/patch"
	"folio/pred"
	"folio/value"
)

// part is a piece of an entry's words; each but the sign ahead of an ensure's terms says what stands in one field.
type part int

const (
	temp   part = iota + 1 // [@temp]
	key                    // KEY
	only                   // TYPE
	when                   // [if N]
	fields                 // FIELDS
	ask                    // ?
	terms                  // TERMS
	edits                  // EDITS
	number                 // N behind a key
	stamp                  // STAMP
)

// maxNumber is the greatest number of nine digits.
const maxNumber = 999999999

// shape is how the words of a kind of entry stand: the first one, and the parts behind it; no word for what is no kind.
func shape(kind int) (string, []part) {
	switch kind {
	case api.EnCreate:
		return "create", []part{temp, key, fields}
	case api.EnEnsure:
		return "ensure", []part{temp, key, fields, ask, terms}
	case api.EnUpdate:
		return "update", []part{key, when, fields}
	case api.EnPatch:
		return "patch", []part{key, when, edits}
	case api.EnDelete:
		return "delete", []part{key, when}
	case api.EnRead:
		return "read", []part{key}
	case api.EnNumber:
		return "number", []part{key, number}
	case api.EnSearch:
		return "search", []part{only, terms}
	case api.EnHistory:
		return "history", []part{key, stamp}
	case api.EnSince:
		return "since", []part{only, stamp}
	case api.EnAt:
		return "at", []part{stamp, key}
	case api.EnFind:
		return "find", []part{stamp, only, terms}
	}
	return "", nil
}

// fits says whether what a part names in an entry is as it must be.
func fits(e api.Entry, p part) bool {
	switch p {
	case temp:
		return e.Temp == "" || name.Temp(e.Temp)
	case key:
		return name.Key(e.Key)
	case only:
		return name.Type(e.Key.Type) && e.Key.ID == ""
	case when:
		return 0 <= e.If && e.If <= maxNumber
	case fields:
		return value.May(e.Value)
	case terms:
		return normal(e.Pred)
	case edits:
		return len(e.Edits) > 0 && patch.May(e.Edits) == api.OK
	case number:
		return 0 <= e.Number && e.Number <= maxNumber
	}
	return true
}

// normal says whether a predicate is normal: making it so changes nothing.
func normal(p []api.Term) bool {
	made, e := pred.Norm(p)
	return e == api.OK && pred.Equal(made, p)
}

// without is an entry in which what a part names is zero.
func without(e api.Entry, p part) api.Entry {
	switch p {
	case temp:
		e.Temp = ""
	case key, only:
		e.Key = api.Key{}
	case when:
		e.If = 0
	case fields:
		e.Value = nil
	case terms:
		e.Pred = nil
	case edits:
		e.Edits = nil
	case number:
		e.Number = 0
	case stamp:
		e.Stamp = 0
	}
	return e
}
