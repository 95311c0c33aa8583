package script

import (
	"iter"
	"strconv"
	"strings"

	"folio/api"
	"folio/op"
)

// may says whether a play is a script's.
func may(p api.Play) bool {
	if !taken(p.Config) || len(p.Clients) > api.MaxClients || len(p.Actions) > api.MaxActions {
		return false
	}
	for client, requests := range p.Clients {
		// A script has no more clients than those up to the last that asks something.
		last := client == len(p.Clients)-1
		if len(requests) > api.MaxRequests || last && len(requests) == 0 {
			return false
		}
		for _, r := range requests {
			if !op.May(r) {
				return false
			}
		}
	}
	for _, a := range p.Actions {
		if !mayAction(a) {
			return false
		}
	}
	return true
}

// mayAction says whether an action is one that a line says.
func mayAction(a api.Action) bool {
	switch a.Kind {
	case api.AcPick:
		return 0 <= a.N && a.N < api.MaxClients
	case api.AcTick:
		return 0 <= a.N && a.N <= api.MaxTick
	case api.AcVacuum:
		return a.N == 0
	}
	return false
}

// lines are those of a play that is a script's.
func lines(p api.Play) iter.Seq[string] {
	return func(yield func(line string) bool) {
		if !yield(configLine(p.Config)) {
			return
		}
		for client, requests := range p.Clients {
			for _, r := range requests {
				if !yield(requestLine(client, r)) {
					return
				}
			}
		}
		for _, a := range p.Actions {
			if !yield(actionLine(a)) {
				return
			}
		}
	}
}

// joined is a line of words.
func joined(words ...string) string { return strings.Join(words, blank) }

func configLine(c api.Config) string {
	return joined(wordConfig, strconv.Itoa(c.Versions), strconv.Itoa(c.Tracked), strconv.Itoa(c.Tries), strconv.FormatUint(c.First, 10))
}

func requestLine(client int, r api.Request) string {
	// It isn't refused: a request of a script's play may be.
	words, _ := op.Print(r)
	return joined(strconv.Itoa(client), words)
}

func actionLine(a api.Action) string {
	n := strconv.FormatInt(a.N, 10)
	switch a.Kind {
	case api.AcPick:
		return joined(wordPick, n)
	case api.AcTick:
		return joined(wordTick, n)
	}
	return wordVacuum
}
