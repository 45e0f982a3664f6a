package run

import (
	"math/rand"
	"strings"
	"testing"
)

// TestX1Examples: the chapter's.
func TestX1Examples(t *testing.T) {
	mustAnswer(t,
		pair{"mul 1.5 -2", "-3"},
		pair{"cut 4,1,1,6 2", "3,4 6"},
		pair{"plan turns 2 2", "F0,F1,B0,B1/F0,B0,F1,B1"},
		pair{"learn 1 2 1", "1.5"},
		pair{"fly", "bad"})
	mustAnswer(t, someLines()...)
}

// TestX1Lines: each line has its answer, whether byte 10 is behind the last one
// or not; an empty one is a line, but behind the last byte 10 there is none.
func TestX1Lines(t *testing.T) {
	mustTell(t, "", "")
	mustTell(t, "\n", "bad\n")
	mustTell(t, "\n\n", "bad\nbad\n")
	mustTell(t, "add 1 2", "3\n")
	mustTell(t, "add 1 2\n", "3\n")
	mustTell(t, "add 1 2\n\n", "3\nbad\n")
	mustTell(t, "\nadd 1 2", "bad\n3\n")
	mustTell(t, "add 1 2\nmul 1 2", "3\n2\n")
	mustTell(t, "add 1 2\n\nmul 1 2\n", "3\nbad\n2\n")
	mustTell(t, "add 1 2\n ", "3\nbad\n")
	for _, p := range someLines() {
		mustTell(t, p.line+"\n", p.answer+"\n")
		mustTell(t, p.line+"\n\n", p.answer+"\nbad\n")
		mustTell(t, "\n"+p.line+"\n", "bad\n"+p.answer+"\n")
		if p.line != "" {
			mustTell(t, p.line, p.answer+"\n")
			mustTell(t, p.line+"\n"+p.line, p.answer+"\n"+p.answer+"\n")
		}
	}
}

// TestX1OnlyByte10CutsLines: all other bytes belong to words.
func TestX1OnlyByte10CutsLines(t *testing.T) {
	for b := range 256 {
		text := "add 1 2" + string([]byte{byte(b)}) + "add 1 2"
		want := "bad\n"
		if b == 10 {
			want = "3\n3\n"
		}
		mustTell(t, text, want)
	}
	mustTell(t, "add 1 2\r\nadd 1 2\r\n", "bad\nbad\n")
	mustTell(t, "add 1 2\u2028add 1 2", "bad\n")
	mustTell(t, "add 1 2\u0085add 1 2", "bad\n")
}

// TestX1TooLong: 8000 bytes are answered line by line, one more are not.
func TestX1TooLong(t *testing.T) {
	mustTell(t, strings.Repeat("add 1 2\n", 1000), strings.Repeat("3\n", 1000))
	mustTell(t, strings.Repeat("add 1 2\n", 1000)+"\n", "too long\n")
	mustTell(t, strings.Repeat("add 1 2\n", 1000)+"f", "too long\n")
	mustTell(t, strings.Repeat("\n", 8000), strings.Repeat("bad\n", 8000))
	mustTell(t, strings.Repeat("\n", 8001), "too long\n")
	mustTell(t, strings.Repeat("a", 8000), "bad\n")
	mustTell(t, strings.Repeat("a", 8001), "too long\n")
	mustTell(t, strings.Repeat("a", 100000), "too long\n")
	// Texts are bytes: two of each of these letters.
	mustTell(t, strings.Repeat("ä", 4000), "bad\n")
	mustTell(t, strings.Repeat("ä", 4000)+"a", "too long\n")
	mustTell(t, strings.Repeat("ä", 4001), "too long\n")
	ones := "sum " + strings.Repeat("1,", 3997)
	mustTell(t, ones+"11", "ErrFull\n")
	mustTell(t, ones+"111", "too long\n")
}

// TestX1AnswersAreManyToo: what is told may be far longer than what was asked.
func TestX1AnswersAreManyToo(t *testing.T) {
	line := "plan turns 6 12\n"
	one := Run(line)
	if len(one) != 456 {
		t.Errorf("Run(%q) has %d bytes, want 456", line, len(one))
	}
	mustTell(t, strings.Repeat(line, 500), strings.Repeat(one, 500))
}

// mustBegin cuts a text behind each of its lines: the answers to the first ones
// are the beginning of the answers to all.
func mustBegin(t *testing.T, text string) {
	t.Helper()
	all := Run(text)
	lines := strings.SplitAfter(text, "\n")
	for i := range len(lines) + 1 {
		first := strings.Join(lines[:i], "")
		got := Run(first)
		if !strings.HasPrefix(all, got) {
			t.Fatalf("Run(%.300q) = %.300q, want the beginning of %.300q", first, got, all)
		}
		if want := strings.Count(first, "\n"); i < len(lines) && strings.Count(got, "\n") != want {
			t.Fatalf("Run(%.300q) = %.300q, want %d answers", first, got, want)
		}
		// Without its end a line that is not empty is the same line.
		if bare, cut := strings.CutSuffix(first, "\n"); cut && bare != "" && !strings.HasSuffix(bare, "\n") {
			mustTell(t, bare, got)
		}
	}
}

// TestX2FirstLines: of many texts, cut behind each of their lines.
func TestX2FirstLines(t *testing.T) {
	r := rand.New(rand.NewSource(3))
	for range 150 {
		text := someList(r, r.Intn(40), "\n", func(r *rand.Rand) string {
			if r.Intn(12) == 0 {
				return ""
			}
			line := someLine(r)
			if r.Intn(5) == 0 {
				line = strings.ReplaceAll(spoilt(r, line), "\n", "")
			}
			return line
		})
		mustBegin(t, text)
		mustBegin(t, text+"\n")
	}
	mustBegin(t, "")
	mustBegin(t, "\n\n\n")
}

// TestX2EachOrder: no line minds those ahead of it or behind it.
func TestX2EachOrder(t *testing.T) {
	for _, a := range someLines() {
		for _, b := range someLines() {
			mustBegin(t, a.line+"\n"+b.line+"\n")
			mustTell(t, a.line+"\n"+b.line+"\n", a.answer+"\n"+b.answer+"\n")
			mustTell(t, a.line+"\n"+b.line+"\n"+a.line+"\n", a.answer+"\n"+b.answer+"\n"+a.answer+"\n")
		}
	}
}

// TestX2AsFarAsNotTooLong: the first lines of a text that is too long are
// answered as ever, as far as they are not too long themselves.
func TestX2AsFarAsNotTooLong(t *testing.T) {
	lines := strings.SplitAfter(strings.Repeat("sizes 3 2\n", 850), "\n")
	for i := range 851 {
		want := strings.Repeat("2,1\n", i)
		if i > 800 {
			want = "too long\n"
		}
		mustTell(t, strings.Join(lines[:i], ""), want)
	}
}
