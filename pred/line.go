package pred

import (
	"strings"

	"folio/api"
	"folio/value"
)

// signs are the operators as a word has them, each in the place of its number, OpIs first.
const signs = "=!^<>?-"

// blank stands between words.
const blank = " "

// Print is a predicate's line.
func Print(p []api.Term) (string, api.Errno) {
	normal, e := Norm(p)
	if e != api.OK {
		return "", e
	}
	var words []string
	for _, t := range normal {
		words = append(words, word(t))
	}
	return strings.Join(words, blank), api.OK
}

// word is how a term that may be is written.
func word(t api.Term) string {
	sign := string(signs[t.Op-api.OpIs])
	return t.Field + sign + value.Write(t.Text)
}

// Parse reads a line.
func Parse(s string) ([]api.Term, api.Errno) {
	if s == "" {
		return nil, api.OK
	}
	var p []api.Term
	for word := range strings.SplitSeq(s, blank) {
		t, e := term(word)
		if e != api.OK {
			return nil, e
		}
		p = append(p, t)
	}
	return Norm(p)
}

// term is the term that a word says; what its name may be, and how long its text, is left to Norm.
func term(word string) (api.Term, api.Errno) {
	at := strings.IndexAny(word, signs)
	if at < 0 {
		return api.Term{}, api.ErrForm
	}
	op := api.OpIs + strings.IndexByte(signs, word[at])
	text, e := value.Read(word[at+1:])
	t := api.Term{Field: word[:at], Op: op, Text: text}
	if e != api.OK || unmeant(t) {
		return api.Term{}, api.ErrForm
	}
	return t, api.OK
}
