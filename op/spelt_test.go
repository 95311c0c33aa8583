package op

import (
	"fmt"
	"regexp"
	"sort"
	"strconv"
	"strings"
	"sync"
	"testing"

	"folio/api"
)

// asTheyAre are the plain bytes.
const asTheyAre = "ABCDEFGHIJKLMNOPQRSTUVWXYZabcdefghijklmnopqrstuvwxyz0123456789-._|*@/:+,"

// decoded is the text that is written so, spelt out.
func decoded(s string) (string, bool) {
	text := ""
	for i := 0; i < len(s); i++ {
		if s[i] != '%' {
			if strings.IndexByte(asTheyAre, s[i]) < 0 {
				return "", false
			}
			text += s[i : i+1]
			continue
		}
		if i+3 > len(s) {
			return "", false
		}
		n, err := strconv.ParseUint(s[i+1:i+3], 16, 8)
		b := string([]byte{byte(n)})
		if err != nil || fmt.Sprintf("%02x", n) != s[i+1:i+3] || strings.Contains(asTheyAre, b) {
			return "", false
		}
		text += b
		i += 2
	}
	return text, len(text) <= api.MaxText
}

// patterns are the words by which the spelt-out reader goes.
type patterns struct {
	field, term, edit *regexp.Regexp
	entry             map[string]*regexp.Regexp
}

var spelt = sync.OnceValue(func() patterns {
	const (
		temp   = `(?: @[A-Za-z0-9]{1,32})?`
		key    = ` [A-Z][A-Za-z]{0,31}/[A-Za-z0-9.-]{1,32}`
		only   = ` [A-Z][A-Za-z]{0,31}`
		when   = `(?: if [1-9][0-9]{0,8})?`
		words  = `((?: [^ ]+)*?)`
		number = ` (?:0|[1-9][0-9]{0,8})`
		stamp  = ` (0|[1-9][0-9]{0,19})`
	)
	p := patterns{
		field: regexp.MustCompile(`\A([a-z][A-Za-z0-9]{0,31})(=)([^ ]*)\z`),
		term:  regexp.MustCompile(`\A([a-z][A-Za-z0-9]{0,31})([=!^<>?-])([^ ]*)\z`),
		edit:  regexp.MustCompile(`\A([a-z][A-Za-z0-9]{0,31})(:=|\+=|-=|==|~)([^ ]*)\z`),
		entry: map[string]*regexp.Regexp{},
	}
	for kind, s := range map[string]string{
		"create": temp + key + words, "ensure": temp + key + words + ` \?` + words, "update": key + when + words, "patch": key + when + words, "delete": key + when,
		"read": key, "number": key + number, "search": only + words, "history": key + stamp, "since": only + stamp, "at": stamp + key, "find": stamp + only + words,
	} {
		p.entry[kind] = regexp.MustCompile(`\A` + kind + s + `\z`)
	}
	return p
})

// word is a name, a sign and a text.
type word struct{ name, sign, text, as string }

// wordsOf are those of a piece of a line, nil if one of them is none.
func wordsOf(piece string, form *regexp.Regexp) ([]word, bool) {
	if piece == "" {
		return nil, true
	}
	var l []word
	for _, s := range strings.Split(piece[1:], " ") {
		m := form.FindStringSubmatch(s)
		if m == nil {
			return nil, false
		}
		text, ok := decoded(m[3])
		if !ok || strings.Contains("?-~", m[2]) && text != "" {
			return nil, false
		}
		l = append(l, word{m[1], m[2], text, s})
	}
	return l, true
}

func joined(l []word) string {
	s := ""
	for _, w := range l {
		s += " " + w.as
	}
	return s
}

// normalFields are a value's words, made normal.
func normalFields(piece string) (string, bool) {
	l, ok := wordsOf(piece, spelt().field)
	names := map[string]int{}
	for _, w := range l {
		names[w.name]++
		ok = ok && names[w.name] <= api.MaxTexts && len(names) <= api.MaxFields
	}
	sort.SliceStable(l, func(i, j int) bool { return l[i].name < l[j].name })
	return joined(l), ok
}

// normalTerms are a predicate's words, made normal.
func normalTerms(piece string) (string, bool) {
	l, ok := wordsOf(piece, spelt().term)
	ok = ok && len(l) <= api.MaxTerms
	rank := func(w word) string { return w.name + "\x00" + strconv.Itoa(strings.Index("=!^<>?-", w.sign)) + w.text }
	sort.SliceStable(l, func(i, j int) bool { return rank(l[i]) < rank(l[j]) })
	var each []word
	for i, w := range l {
		if i == 0 || w != l[i-1] {
			each = append(each, w)
		}
	}
	return joined(each), ok
}

// normalEntry is the line of the entry that s says, "" if it says none.
func normalEntry(s string) string {
	kind, _, _ := strings.Cut(s, " ")
	form := spelt().entry[kind]
	if form == nil {
		return ""
	}
	m := form.FindStringSubmatchIndex(s)
	if m == nil {
		return ""
	}
	part := func(n int) string { return s[m[2*n]:m[2*n+1]] }
	ahead := func() string { return s[:m[2]] }
	switch kind {
	case "create", "update":
		if kind == "update" && strings.HasPrefix(part(1), " if ") {
			return ""
		}
		if l, ok := normalFields(part(1)); ok {
			return ahead() + l
		}
		return ""
	case "ensure":
		l, ok := normalFields(part(1))
		p, fine := normalTerms(part(2))
		if ok && fine {
			return ahead() + l + " ?" + p
		}
		return ""
	case "patch":
		if l, ok := wordsOf(part(1), spelt().edit); ok && 1 <= len(l) && len(l) <= api.MaxEdits {
			return s
		}
		return ""
	case "search":
		if p, ok := normalTerms(part(1)); ok {
			return ahead() + p
		}
		return ""
	}
	if kind == "history" || kind == "since" || kind == "at" || kind == "find" {
		if n := part(1); len(n) == 20 && n > "18446744073709551615" {
			return ""
		}
	}
	if kind == "find" {
		if p, ok := normalTerms(part(2)); ok {
			return s[:m[4]] + p
		}
		return ""
	}
	return s
}

// normalLine is the line of the request that s says, "" if it says none.
func normalLine(s string) string {
	rest := strings.TrimPrefix(s, "once ")
	var l []string
	for _, text := range strings.Split(rest, " ; ") {
		e := normalEntry(text)
		if e == "" {
			return ""
		}
		l = append(l, e)
	}
	if len(l) > api.MaxEntries {
		return ""
	}
	return s[:len(s)-len(rest)] + strings.Join(l, " ; ")
}

// checked fails unless Parse takes just what the spelt-out reader takes, and what it takes may be, is printed as that says, and is read again as it is (P16.1, P16.2).
func checked(t *testing.T, s string) bool {
	t.Helper()
	want := normalLine(s)
	r, e := Parse(s)
	if want == "" {
		if e != api.ErrForm || !alike(r, api.Request{}) {
			t.Fatalf("Parse(%q): %+v, %v; want ErrForm", s, r, e)
		}
		return false
	}
	line, no := Print(r)
	if e != api.OK || no != api.OK || line != want || !May(r) {
		t.Fatalf("Parse(%q): %+v, %v; Print of it %q, %v, May %v; want %q", s, r, e, line, no, May(r), want)
	}
	if back, e := Parse(line); e != api.OK || !alike(back, r) || !Equal(back, r) {
		t.Fatalf("Parse(%q): %+v, %v; want %+v", line, back, e, r)
	}
	return true
}

// TestAllShortLines is P16.1 and P16.2 over all lines of a few words.
func TestAllShortLines(t *testing.T) {
	verbs := strings.Fields("create ensure update patch delete read number search history since at find once fly")
	words := []string{"@x", "@", "A/a", "A", "if", "1", "0", "01", "b=1", "a=", "?", "a?", "b-", "a~", "a:=1", ";", "", "read"}
	taken := 0
	var more func(s string, left int)
	more = func(s string, left int) {
		if checked(t, s) {
			taken++
		}
		if left == 0 {
			return
		}
		for _, w := range words {
			more(s+" "+w, left-1)
		}
	}
	for _, v := range verbs {
		more(v, 4)
	}
	if taken < 200 {
		t.Errorf("only %d lines were taken", taken)
	}
}

// TestLongLines is P16.1 and P16.2 over drawn lines: entries of drawn pieces, some with a word or a byte too much, too little or instead.
func TestLongLines(t *testing.T) {
	d := drawer(16)
	taken, refused := 0, 0
	for range 60000 {
		s := d.line()
		if d.n(3) == 0 {
			s = d.hurt(s)
		}
		if checked(t, s) {
			taken++
		} else {
			refused++
		}
	}
	if taken < 10000 || refused < 10000 {
		t.Errorf("%d lines were taken, %d refused", taken, refused)
	}
}

// TestDrawnRequests is P16.2: Parse of Print is the request.
func TestDrawnRequests(t *testing.T) {
	d := drawer(7)
	for range 20000 {
		s := d.line()
		r, e := Parse(s)
		if e != api.OK {
			continue
		}
		for i := range r.Entries {
			d.alter(&r.Entries[i])
		}
		r.Once = d.n(2) == 0
		line, e := Print(r)
		if May(r) != (e == api.OK) {
			t.Fatalf("of %+v: May %v, Print %v", r, May(r), e)
		}
		if e != api.OK {
			continue
		}
		if back, e := Parse(line); e != api.OK || !alike(back, r) {
			t.Fatalf("Parse(%q): %+v, %v; want %+v", line, back, e, r)
		}
	}
}
