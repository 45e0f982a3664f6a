package run

import (
	"strings"
	"testing"
)

// pair is a line and its answer.
type pair struct{ line, answer string }

// mustAnswer asks each line alone, and then all of them as one text.
func mustAnswer(t *testing.T, pairs ...pair) {
	t.Helper()
	var text, want strings.Builder
	for _, p := range pairs {
		if got := Run(p.line + "\n"); got != p.answer+"\n" {
			t.Errorf("Run(%.300q) = %.300q, want %.300q", p.line+"\n", got, p.answer+"\n")
		}
		text.WriteString(p.line + "\n")
		want.WriteString(p.answer + "\n")
	}
	if got := Run(text.String()); got != want.String() {
		t.Errorf("Run(%.300q) = %.300q, want %.300q", text.String(), got, want.String())
	}
}

// mustBeBad asks each line alone, and then all of them as one text.
func mustBeBad(t *testing.T, lines ...string) {
	t.Helper()
	var pairs []pair
	for _, line := range lines {
		pairs = append(pairs, pair{line, "bad"})
	}
	mustAnswer(t, pairs...)
}

// mustTell holds a whole text and all that is told of it.
func mustTell(t *testing.T, text, want string) {
	t.Helper()
	if got := Run(text); got != want {
		t.Errorf("Run(%.300q) = %.300q, want %.300q", text, got, want)
	}
}

// someLines are one of each row, and of what is none.
func someLines() []pair {
	return []pair{
		{"add 1.5 0.25", "1.75"},
		{"mul 1.5 -2", "-3"},
		{"sizes 10 4", "3,3,2,2"},
		{"cut 4,1,1,6 2", "3,4 6"},
		{"plan turns 2 2", "F0,F1,B0,B1/F0,B0,F1,B1"},
		{"plan wave 2 2", "F0,F1,B0,B1/F0,F1,B0,B1"},
		{"long wave 2 3 1 2", "12 3,3"},
		{"peaks turns 3 2", "2,2,1"},
		{"sum 1,2/3,4", "4,6"},
		{"learn 1 2 1", "1.5"},
		{"sizes 2 3", "ErrShape"},
		{"cut - 1", "ErrRange"},
		{"learn 1 2 21", "ErrFull"},
		{"fly", "bad"},
		{"", "bad"},
	}
}
