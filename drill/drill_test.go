package drill

import (
	"fmt"
	"math"
	"slices"
	"strings"
	"testing"

	"galley/api"
	"galley/train"
)

// story is what comes of some falls: try by try the number of the batch that is
// learned, or - where the try fails.
type story struct {
	count, every int
	falls        []int
	tries        string
}

// stories are by hand.
func stories() []story {
	return []story{
		// No batch: there is no try, so no fall comes.
		{0, 1, nil, ""},
		{0, 1, fallsOf(1), ""},
		{0, 20, fallsOf(1, 2, 3), ""},
		// One batch.
		{1, 1, nil, "0"},
		{1, 1, fallsOf(1), "- 0"},
		{1, 1, fallsOf(2), "0"},
		{1, 2, fallsOf(1), "- 0"},
		{1, 20, fallsOf(1, 2, 3), "- - - 0"},
		{1, 1, fallsOf(1, 3), "- 0"},
		// Some batches, and no fall.
		{2, 1, nil, "0 1"},
		{5, 2, nil, "0 1 2 3 4"},
		{5, 5, nil, "0 1 2 3 4"},
		{5, 20, nil, "0 1 2 3 4"},
		// The first try.
		{5, 1, fallsOf(1), "- 0 1 2 3 4"},
		{5, 2, fallsOf(1), "- 0 1 2 3 4"},
		{5, 9, fallsOf(1), "- 0 1 2 3 4"},
		// The last try.
		{5, 1, fallsOf(5), "0 1 2 3 - 4"},
		{5, 2, fallsOf(5), "0 1 2 3 - 4"},
		{6, 2, fallsOf(6), "0 1 2 3 4 - 4 5"},
		{5, 3, fallsOf(5), "0 1 2 3 - 3 4"},
		{5, 4, fallsOf(5), "0 1 2 3 - 4"},
		{5, 5, fallsOf(5), "0 1 2 3 - 0 1 2 3 4"},
		{5, 6, fallsOf(5), "0 1 2 3 - 0 1 2 3 4"},
		{5, 20, fallsOf(5), "0 1 2 3 - 0 1 2 3 4"},
		// Right behind a keeping.
		{6, 3, fallsOf(4), "0 1 2 - 3 4 5"},
		{6, 2, fallsOf(3), "0 1 - 2 3 4 5"},
		{6, 2, fallsOf(3, 6), "0 1 - 2 3 - 4 5"},
		// Right ahead of the next one.
		{6, 3, fallsOf(3), "0 1 - 0 1 2 3 4 5"},
		{6, 3, fallsOf(6), "0 1 2 3 4 - 3 4 5"},
		{6, 2, fallsOf(2), "0 - 0 1 2 3 4 5"},
		{6, 2, fallsOf(2, 6), "0 - 0 1 2 - 2 3 4 5"},
		// One each: right ahead of a keeping, and right behind it.
		{6, 3, fallsOf(3, 7), "0 1 - 0 1 2 - 3 4 5"},
		// Several tries behind one another.
		{3, 1, fallsOf(1, 2, 3), "- - - 0 1 2"},
		{3, 1, fallsOf(2, 3, 4), "0 - - - 1 2"},
		{3, 3, fallsOf(3, 4, 5), "0 1 - - - 0 1 2"},
		{3, 2, fallsOf(3, 4, 5), "0 1 - - - 2"},
		{3, 2, fallsOf(2, 3, 4, 5), "0 - - - - 0 1 2"},
		// Several, with something learned between them.
		{2, 2, fallsOf(2, 4), "0 - 0 - 0 1"},
		{3, 3, fallsOf(3, 6, 9), "0 1 - 0 1 - 0 1 - 0 1 2"},
		{3, 1, fallsOf(1, 3, 5), "- 0 - 1 - 2"},
		{5, 2, fallsOf(1, 2, 4, 8), "- - 0 - 0 1 2 - 2 3 4"},
		{5, 3, fallsOf(2, 4, 7, 10), "0 - 0 - 0 1 - 0 1 - 0 1 2 3 4"},
		// Their numbers never come.
		{2, 1, fallsOf(3), "0 1"},
		{2, 2, fallsOf(100, 200), "0 1"},
		{2, 2, fallsOf(math.MaxInt-1, math.MaxInt), "0 1"},
		{5, 2, fallsOf(6), "0 1 2 3 4"},
		{5, 2, fallsOf(4, 8, 9), "0 1 2 - 2 3 4"},
		{5, 2, fallsOf(4, 7, 1<<32+1), "0 1 2 - 2 3 - 4"},
		// every does not divide how many there are: those behind the last keeping are lost, too.
		{5, 2, fallsOf(5, 6), "0 1 2 3 - - 4"},
		{7, 3, fallsOf(7), "0 1 2 3 4 5 - 6"},
		{8, 3, fallsOf(8), "0 1 2 3 4 5 6 - 6 7"},
		{8, 5, fallsOf(8, 11), "0 1 2 3 4 5 6 - 5 6 - 5 6 7"},
		// every is as many as there are batches, and one more or less.
		{4, 4, fallsOf(4, 8), "0 1 2 - 0 1 2 - 0 1 2 3"},
		{4, 5, fallsOf(4, 8), "0 1 2 - 0 1 2 - 0 1 2 3"},
		{4, 3, fallsOf(4, 6), "0 1 2 - 3"},
	}
}

// words are the tries of a story.
func (s story) words() []string { return strings.Fields(s.tries) }

func (s story) name() string {
	return fmt.Sprintf("%d batches, every %d, falls %v", s.count, s.every, s.falls)
}

// TestD1Stories: it tells the state behind the last batch, and how many tries there were.
func TestD1Stories(t *testing.T) {
	for _, s := range stories() {
		a := line(s.count, s.every, s.falls...)
		state, offs, err := train.All(a.s, a.l, a.parts, a.r)
		if err != nil || len(offs) != s.count {
			t.Fatalf("%s: train's All told %v, %v", s.name(), offs, err)
		}
		if got, want := a.run(), answer(state, len(s.words()), nil); got != want {
			t.Errorf("%s: Run =\n%s\nwant\n%s", s.name(), got, want)
		}
	}
}

// TestD1TheStoriesAreRight holds both ways of counting, by which all else is
// held, against what stands there by hand.
func TestD1TheStoriesAreRight(t *testing.T) {
	for _, s := range stories() {
		if got, want := slowTries(s.count, s.every, s.falls), len(s.words()); got != want {
			t.Errorf("%s: %d tries by groups, %d by hand", s.name(), got, want)
		}
		came, lost := slowLosses(s.count, s.every, s.falls)
		if got, want := s.count+came+lost, len(s.words()); got != want {
			t.Errorf("%s: %d tries by lists, %d by hand", s.name(), got, want)
		}
	}
}

// TestD1ByHand has numbers that are reckoned by hand.
func TestD1ByHand(t *testing.T) {
	a := line(0, 2)
	a.r = api.Rates{Learn: 128}
	b := batchOf(of(1, 1, 256), of(1, 1, 512))
	for _, c := range []struct {
		count, every int
		falls        []int
		cell, tries  int
	}{
		{0, 2, fallsOf(1), 256, 0},
		{1, 2, nil, 384, 1},
		{1, 2, fallsOf(1), 384, 2},
		{2, 2, nil, 448, 2},
		{2, 2, fallsOf(2, 4), 448, 6},
		{2, 1, fallsOf(2, 4), 448, 3},
		{3, 2, fallsOf(2, 4), 480, 7},
		{3, 2, fallsOf(3), 480, 4},
		{3, 20, fallsOf(3), 480, 6},
	} {
		a.l, a.every, a.falls = slices.Repeat([]api.Batch{b}, c.count), c.every, c.falls
		s, tries, err := Run(a.s, a.l, a.parts, a.r, a.every, a.falls)
		if err != nil || s.Steps != c.count || s.Net[0].W.Cells[0] != c.cell || tries != c.tries {
			t.Errorf("Run of %d batches, every %d, falls %v = %v, %d, %v; want %d, %d", c.count, c.every, c.falls, s, tries, err, c.cell, c.tries)
		}
	}
}

// TestD1NoBatch: the state is told as it is; there is no try, and parts and
// rates are not asked.
func TestD1NoBatch(t *testing.T) {
	for _, l := range [][]api.Batch{nil, {}, small().l[:0]} {
		for _, parts := range []int{math.MinInt, -1, 0, 1, 12, 13, math.MaxInt} {
			for _, r := range []api.Rates{{}, {Learn: 256, Keep: 256}, {Learn: -1}, {Keep: 257}} {
				for _, falls := range [][]int{nil, {}, {1}, {1, 2, 3}, {math.MaxInt}} {
					a := small()
					a.l, a.parts, a.r, a.falls = l, parts, r, falls
					if got, want := a.run(), answer(small().s, 0, nil); got != want {
						t.Errorf("no batches, %d parts, %v, falls %v: Run =\n%s\nwant\n%s", parts, r, falls, got, want)
					}
				}
			}
		}
	}
	a := asked{every: 1}
	if got, want := a.run(), answer(train.State{}, 0, nil); got != want {
		t.Errorf("no batches, no layers: Run =\n%s\nwant\n%s", got, want)
	}
}

// TestD1NoLayers: Steps alone are learned, lost and learned again.
func TestD1NoLayers(t *testing.T) {
	a := asked{s: train.State{Steps: 5}, parts: 1, every: 3, falls: fallsOf(3, 8)}
	a.l = slices.Repeat([]api.Batch{batchOf(of(1, 1, 3), of(1, 1, 4))}, 5)
	if got, want := a.run(), answer(train.State{Steps: 10}, 10, nil); got != want {
		t.Errorf("no layers: Run =\n%s\nwant\n%s", got, want)
	}
}

// TestD1AsManyAsMayBe: as many batches, falls and losses as there can be.
func TestD1AsManyAsMayBe(t *testing.T) {
	for every := 1; every <= api.MaxEpochs; every++ {
		var falls []int
		for i := range 20 {
			falls = append(falls, every*(i+1))
		}
		a := line(20, every, falls...)
		a.must(t, fmt.Sprint("every ", every))
	}
	a := line(20, 20)
	for i := range 20 {
		a.falls = append(a.falls, 20*(i+1))
	}
	if _, tries, err := Run(a.s, a.l, a.parts, a.r, a.every, a.falls); tries != 420 || err != nil {
		t.Errorf("as many as may be: %d tries, %v", tries, err)
	}
}

// TestD1SpeedAndSteps: what is lost is not the net alone, but its speed and Steps, too.
func TestD1SpeedAndSteps(t *testing.T) {
	a := small()
	for every := 1; every <= 6; every++ {
		for try := 1; try <= 6; try++ {
			a.every, a.falls = every, fallsOf(try)
			a.must(t, fmt.Sprintf("every %d, fall %d", every, try))
		}
	}
}
