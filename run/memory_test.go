package run

import (
	"math/rand"
	"strings"
	"sync"
	"testing"
)

// TestRuleP1AnyBytes: any bytes are answered, each line by one line.
func TestRuleP1AnyBytes(t *testing.T) {
	r := rand.New(rand.NewSource(4))
	for i := range 3000 {
		b := make([]byte, r.Intn(200))
		for j := range b {
			switch i % 3 {
			case 0:
				b[j] = byte(r.Intn(256))
			case 1:
				b[j] = " \n,/-.0123456789"[r.Intn(16)]
			default:
				b[j] = "adlmuplnwvetrsk 1,\n"[r.Intn(19)]
			}
		}
		mustBeLines(t, string(b))
	}
}

// TestRuleP1OneByteOff: whatever byte is turned, put in or taken away.
func TestRuleP1OneByteOff(t *testing.T) {
	for _, line := range rightLines() {
		for i := range line {
			for b := range 256 {
				one := string([]byte{byte(b)})
				for _, text := range []string{line[:i] + one + line[i+1:], line[:i] + one + line[i:], line[:i] + line[i+1:]} {
					mustBeLines(t, text)
					mustTell(t, text, slowRun(text))
				}
			}
		}
	}
}

// mustBeLines holds that there are as many lines as there were.
func mustBeLines(t *testing.T, text string) {
	t.Helper()
	want := strings.Count(text, "\n")
	if text != "" && !strings.HasSuffix(text, "\n") {
		want++
	}
	got := Run(text)
	if strings.Count(got, "\n") != want || got != "" && !strings.HasSuffix(got, "\n") {
		t.Errorf("Run(%.300q) = %.300q, want %d lines", text, got, want)
	}
}

// TestRuleP1LongWords: words as long as a text lets them be, and as many.
func TestRuleP1LongWords(t *testing.T) {
	fill := func(head, piece, tail string) string {
		return head + strings.Repeat(piece, (8000-len(head)-len(tail))/len(piece)) + tail
	}
	for text, want := range map[string]string{
		fill("add 1 ", "1", ""):               "bad\n",
		fill("add 0.", "0", "1 1"):            "bad\n",
		fill("sizes ", "9", " 1"):             "bad\n",
		fill("sizes ", "0", "1 1"):            "bad\n",
		fill("cut ", "1,", "1 1"):             "ErrRange\n",
		fill("cut ", ",", " 1"):               "bad\n",
		fill("sum ", "1,", "1"):               "ErrFull\n",
		fill("sum ", "1/", "1"):               "ErrRange\n",
		fill("sum ", "/", ""):                 "bad\n",
		fill("sum ", "-", ""):                 "bad\n",
		fill("", " ", ""):                     "bad\n",
		fill("learn 1 1 20", " ", ""):         "bad\n",
		fill("", "1 ", ""):                    "bad\n",
		fill("plan wave 1 1", "/F0,B0", ""):   "bad\n",
		fill("", "learn 1 2 20\n", ""):        strings.Repeat("2\n", 615),
		fill("", "sum 1/1/1/1/1/1\n", ""):     strings.Repeat("6\n", 500),
		fill("", "plan x\nplan wave 1\n", ""): strings.Repeat("bad\n", 842),
	} {
		mustTell(t, text, want)
	}
}

// TestRuleP2Alone: what is told hangs on the text alone, not on what was told
// ahead.
func TestRuleP2Alone(t *testing.T) {
	r := rand.New(rand.NewSource(5))
	var texts, told []string
	for range 100 {
		text := someList(r, 1+r.Intn(20), "\n", someLine)
		texts, told = append(texts, text), append(told, Run(text))
	}
	for _, i := range r.Perm(len(texts)) {
		mustTell(t, texts[i], told[i])
	}
}

// TestRuleP2AtOnce: calls that are made at once tell the same.
func TestRuleP2AtOnce(t *testing.T) {
	r := rand.New(rand.NewSource(6))
	for range 10 {
		text := someList(r, 60, "\n", someLine)
		want := slowRun(text)
		var calls sync.WaitGroup
		for range 8 {
			calls.Go(func() {
				if got := Run(text); got != want {
					t.Errorf("Run(%.300q) = %.300q, want %.300q", text, got, want)
				}
			})
		}
		calls.Wait()
	}
}
