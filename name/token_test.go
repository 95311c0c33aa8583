package name

import (
	"strings"
	"testing"
)

func TestTokenExamples(t *testing.T) {
	for _, x := range []struct {
		pattern, text string
		want          bool
	}{
		{"7", "mrn|7", true},
		{"mrn|7", "7", false},
		{"mrn|", "mrn|9", true},
		{"|7", "7", true},
		{"|7", "mrn|7", false},
		{"", "", true},
		{"a|b", "a|b|c", false},
		{"a|b|c", "a|b|c", true},
		// Without "|": the code alone.
		{"7", "7", true},
		{"7", "|7", true},
		{"7", "77", false},
		{"7", "", false},
		{"", "7", false},
		{"", "mrn|", true},
		{"", "|", true},
		{"", "mrn|7", false},
		{"mrn", "mrn|7", false},
		{"c", "a|b|c", false},
		{"b", "a|b|c", false},
		// With one: the system, and the code or none.
		{"mrn|7", "mrn|7", true},
		{"mrn|7", "mrn|8", false},
		{"mrn|7", "MRN|7", false},
		{"mrn|7", "ssn|7", false},
		{"mrn|7", "mrn|", false},
		{"mrn|", "mrn|", true},
		{"mrn|", "mrn", false},
		{"mrn|", "mrn|a|b", true},
		{"mrn|", "mrnx|9", false},
		{"mrn|", "mr|9", false},
		{"|7", "|7", true},
		{"|7", "|8", false},
		{"|", "", true},
		{"|", "7", true},
		{"|", "|7", true},
		{"|", "|", true},
		{"|", "mrn|7", false},
		{"|", "mrn|", false},
		// With several: the first parts, the rest is code.
		{"a|b|", "a|b|", true},
		{"a|b|", "a|b", false},
		{"a|b|", "a|b|c", false},
		{"a||", "a||", true},
		{"a||", "a|", false},
		{"a||", "a|b", false},
		{"||", "||", true},
		{"||", "|", false},
		{"||", "", false},
		{"|a|b", "|a|b", true},
		{"|a|b", "a|b", false},
		{"||b", "||b", true},
		// Texts are bytes: what is beyond ASCII, and the nought byte.
		{"\u00e4", "x|\u00e4", true},
		{"\xff|", "\xff|\x00", true},
		{"a\x00|b", "a|b", false},
	} {
		if got := Token(x.pattern, x.text); got != x.want {
			t.Errorf("Token(%q, %q): %v", x.pattern, x.text, got)
		}
	}
}

// TestTokenEveryText holds Token against its words, for all patterns and texts of up to four bytes.
func TestTokenEveryText(t *testing.T) {
	var texts []string
	for rest := []string{""}; len(rest) > 0; rest = rest[1:] {
		s := rest[0]
		texts = append(texts, s)
		if len(s) < 4 {
			rest = append(rest, s+"a", s+"b", s+"|")
		}
	}
	for _, text := range texts {
		// A text without "|" means the same as one with "|" ahead of it.
		full := text
		if !strings.Contains(full, "|") {
			full = "|" + full
		}
		for _, pattern := range texts {
			var want bool
			switch n := strings.IndexByte(pattern, '|'); {
			case n < 0:
				want = full[strings.IndexByte(full, '|')+1:] == pattern
			case n == len(pattern)-1:
				want = strings.HasPrefix(full, pattern)
			default:
				want = full == pattern
			}
			if Token(pattern, text) != want {
				t.Errorf("Token(%q, %q): not %v", pattern, text, want)
			}
		}
	}
}
