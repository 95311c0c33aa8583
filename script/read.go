package script

import (
	"math"
	"strconv"
	"strings"

	"folio/api"
	"folio/op"
	"folio/store"
)

// remark begins a line that says nothing.
const remark = "#"

// usual is the configuration of a script that names none.
func usual() api.Config {
	return api.Config{Versions: api.MaxVersions, Tracked: api.MaxTracked, Tries: api.MaxTries}
}

// reader takes the lines of a script, one after the other.
type reader struct {
	play api.Play
	line int // the number of the line that is looked at
	said int // how many lines have said something, that one too
}

// verb is a word that begins a line, and what the words behind it do.
type verb struct {
	word  string
	takes func(r *reader, words []string)
}

// verbs are all of them. A line that begins with none is a client's request.
func verbs() []verb {
	return []verb{
		{wordConfig, configures},
		{wordPick, picks},
		{wordTick, ticks},
		{wordVacuum, vacuums},
	}
}

// read takes all lines of a script, and says whether it could; line is the first one that it couldn't take.
func (r *reader) read(s string) (all bool) {
	defer func() { all = recover() == nil }()
	known := verbs()
lines:
	for text := range strings.SplitSeq(s, end) {
		r.line++
		if text == "" || strings.HasPrefix(text, remark) {
			continue
		}
		r.said++
		words := strings.Split(text, blank)
		for _, v := range known {
			if v.word == words[0] {
				v.takes(r, words[1:])
				continue lines
			}
		}
		r.asks(text)
	}
	return true
}

// need gives up the line that is looked at, if what it needs doesn't hold: read catches it.
func need(holds bool) {
	if !holds {
		panic(api.ErrLine)
	}
}

// number is the one that a word writes, if it isn't above most.
func number(word string, most uint64) uint64 {
	n, err := strconv.ParseUint(word, 10, 64)
	// Written again, since another form of a number than its own is none.
	need(err == nil && n <= most && strconv.FormatUint(n, 10) == word)
	return n
}

func configures(r *reader, words []string) {
	need(r.said == 1 && len(words) == 4)
	c := api.Config{
		Versions: int(number(words[0], api.MaxVersions)),
		Tracked:  int(number(words[1], api.MaxTracked)),
		Tries:    int(number(words[2], api.MaxTries)),
		First:    number(words[3], math.MaxUint64),
	}
	need(taken(c))
	r.play.Config = c
}

// taken says whether a store takes a configuration.
func taken(c api.Config) bool {
	_, e := store.New(c)
	return e == api.OK
}

func picks(r *reader, words []string) {
	need(len(words) > 0)
	for _, word := range words {
		r.acts(api.AcPick, number(word, api.MaxClients-1))
	}
}

func ticks(r *reader, words []string) {
	need(len(words) == 1)
	r.acts(api.AcTick, number(words[0], api.MaxTick))
}

func vacuums(r *reader, words []string) {
	need(len(words) == 0)
	r.acts(api.AcVacuum, 0)
}

// acts puts an action behind those that are there.
func (r *reader) acts(kind int, n uint64) {
	need(len(r.play.Actions) < api.MaxActions)
	r.play.Actions = append(r.play.Actions, api.Action{Kind: kind, N: int64(n)})
}

// asks puts a client's request behind those that it has.
func (r *reader) asks(text string) {
	client, line, _ := strings.Cut(text, blank)
	n := int(number(client, api.MaxClients-1))
	request, e := op.Parse(line)
	need(e == api.OK)
	for len(r.play.Clients) <= n {
		r.play.Clients = append(r.play.Clients, nil)
	}
	need(len(r.play.Clients[n]) < api.MaxRequests)
	r.play.Clients[n] = append(r.play.Clients[n], request)
}
