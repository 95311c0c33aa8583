package op

import (
	"slices"
	"strconv"
	"strings"

	"folio/api"
	"folio/name"
	"folio/patch"
	"folio/pred"
	"folio/value"
)

// What a line has beside the words of the layers below.
const (
	blank   = " "
	between = " ; "
	once    = "once "
	sign    = "@"
	asks    = "?"
	onlyIf  = "if"
)

// Print is a request's line.
func Print(r api.Request) (string, api.Errno) {
	if !May(r) {
		return "", api.ErrForm
	}
	var lines []string
	for _, e := range r.Entries {
		lines = append(lines, line(e))
	}
	s := strings.Join(lines, between)
	if r.Once {
		s = once + s
	}
	return s, api.OK
}

// line is the words of an entry that may be.
func line(e api.Entry) string {
	verb, parts := shape(e.Kind)
	pieces := []string{verb}
	for _, p := range parts {
		if s := piece(e, p); s != "" {
			pieces = append(pieces, s)
		}
	}
	return strings.Join(pieces, blank)
}

// piece is the words of one part of an entry that may be, empty where it has none.
func piece(e api.Entry, p part) string {
	s := ""
	switch p {
	case temp:
		if e.Temp != "" {
			s = sign + e.Temp
		}
	case key:
		s, _ = name.Print(e.Key)
	case only:
		s = e.Key.Type
	case when:
		if e.If != 0 {
			s = onlyIf + blank + strconv.Itoa(e.If)
		}
	case fields:
		s, _ = value.Print(e.Value)
	case ask:
		s = asks
	case terms:
		s, _ = pred.Print(e.Pred)
	case edits:
		s, _ = patch.Print(e.Edits)
	case number:
		s = strconv.Itoa(e.Number)
	case stamp:
		s = strconv.FormatUint(e.Stamp, 10)
	}
	return s
}

// Parse reads a line.
func Parse(s string) (api.Request, api.Errno) {
	rest, found := strings.CutPrefix(s, once)
	r := api.Request{Once: found}
	for text := range strings.SplitSeq(rest, between) {
		e, ok := entry(text)
		if !ok || len(r.Entries) == api.MaxEntries {
			return api.Request{}, api.ErrForm
		}
		r.Entries = append(r.Entries, e)
	}
	return r, api.OK
}

// entry is the one whose words a text is.
func entry(text string) (api.Entry, bool) {
	words := strings.Split(text, blank)
	// Joined again, an empty word alone would look like no words at all.
	if slices.Contains(words, "") {
		return api.Entry{}, false
	}
	e := api.Entry{Kind: kind(words[0])}
	words = words[1:]
	verb, parts := shape(e.Kind)
	for _, p := range parts {
		n := span(words, p)
		if n > len(words) || !read(&e, p, words[:n]) {
			return api.Entry{}, false
		}
		words = words[n:]
	}
	return e, verb != "" && len(words) == 0
}

// kind is the one whose first word is given, 0 if there is none.
func kind(word string) int {
	for k := api.EnCreate; k <= api.EnFind; k++ {
		if verb, _ := shape(k); verb == word {
			return k
		}
	}
	return 0
}

// span is how many of the words that are left belong to a part.
func span(words []string, p part) int {
	switch p {
	case temp:
		if len(words) == 0 || !strings.HasPrefix(words[0], sign) {
			return 0
		}
	case when:
		if len(words) == 0 || words[0] != onlyIf {
			return 0
		}
		return 2
	case fields:
		if at := slices.Index(words, asks); at >= 0 {
			return at
		}
		return len(words)
	case terms, edits:
		return len(words)
	}
	return 1
}

// read puts what a part's words say into an entry, and says whether they can be read.
func read(e *api.Entry, p part, words []string) bool {
	text := strings.Join(words, blank)
	ok, no := true, api.OK
	switch p {
	case temp:
		e.Temp = strings.TrimPrefix(text, sign)
		ok = text == "" || name.Temp(e.Temp)
	case key:
		e.Key, no = name.Parse(text)
	case only:
		e.Key.Type = text
		ok = name.Type(text)
	case when:
		e.If, ok = condition(text)
	case fields:
		e.Value, no = value.Parse(text)
	case ask:
		ok = text == asks
	case terms:
		e.Pred, no = pred.Parse(text)
	case edits:
		e.Edits, no = patch.Parse(text)
		ok = len(e.Edits) > 0
	case number:
		e.Number, ok = count(text)
	case stamp:
		e.Stamp, ok = whole(text)
	}
	return ok && no == api.OK
}

// condition is the number behind "if", 0 where there are no such words.
func condition(text string) (int, bool) {
	if text == "" {
		return 0, true
	}
	n, ok := count(strings.TrimPrefix(text, onlyIf+blank))
	return n, ok && n > 0
}

// count is a number of at most nine digits.
func count(s string) (int, bool) {
	n, ok := whole(s)
	if !ok || n > maxNumber {
		return 0, false
	}
	return int(n), true
}

// whole is a number of 64 bits; other forms of it than its own are not read.
func whole(s string) (uint64, bool) {
	n, err := strconv.ParseUint(s, 10, 64)
	if err != nil || strconv.FormatUint(n, 10) != s {
		return 0, false
	}
	return n, true
}
