package patch

import (
	"strings"

	"folio/api"
	"folio/value"
)

// signs are the kinds as a word has them, each in the place of its number, EdSet first.
const signs = ":+-~="

// equals stands between a sign and its text, blank between words.
const (
	equals = "="
	blank  = " "
)

// Print is the line of edits.
func Print(l []api.Edit) (string, api.Errno) {
	if e := May(l); e != api.OK {
		return "", e
	}
	var words []string
	for _, edit := range l {
		words = append(words, word(edit))
	}
	return strings.Join(words, blank), api.OK
}

// word is how an edit that may be is written.
func word(e api.Edit) string {
	head := e.Field + string(signs[e.Kind-api.EdSet])
	if e.Kind == api.EdWipe {
		return head
	}
	return head + equals + value.Write(e.Text)
}

// Parse reads a line.
func Parse(s string) ([]api.Edit, api.Errno) {
	if s == "" {
		return nil, api.OK
	}
	var l []api.Edit
	for word := range strings.SplitSeq(s, blank) {
		edit, e := read(word)
		if e != api.OK {
			return nil, e
		}
		// One too many is enough to be refused: of a long line the rest is only looked at for its form.
		if len(l) <= api.MaxEdits {
			l = append(l, edit)
		}
	}
	if e := May(l); e != api.OK {
		return nil, e
	}
	return l, api.OK
}

// read is the edit that a word says; what its name may be, and how long its text, is left to May.
func read(word string) (api.Edit, api.Errno) {
	at := strings.IndexAny(word, signs)
	if at < 0 {
		return api.Edit{}, api.ErrForm
	}
	e := api.Edit{Kind: api.EdSet + strings.IndexByte(signs, word[at]), Field: word[:at]}
	behind := word[at+1:]
	if e.Kind == api.EdWipe {
		if behind != "" {
			return api.Edit{}, api.ErrForm
		}
		return e, api.OK
	}
	written, found := strings.CutPrefix(behind, equals)
	text, errno := value.Read(written)
	if !found || errno != api.OK {
		return api.Edit{}, api.ErrForm
	}
	e.Text = text
	return e, api.OK
}
