package rings

import (
	"fmt"
	"math/rand"
	"slices"
	"testing"

	"galley/api"
)

// TestG2ByHand: the chapter's example, and sums of which each piece tells by
// which worker it began.
func TestG2ByHand(t *testing.T) {
	for _, c := range []struct {
		parts [][]int
		sums  []int
	}{
		{[][]int{{1, 2, 3}, {10, 20, 30}}, []int{11, 22, 33}},
		{[][]int{{7, -top, top}}, []int{7, -top, top}},
		{[][]int{{top, -top, top}, {1, -1, -top}}, []int{top, -top, 0}},
		{alike(1, top, top, -top), []int{top}},
		{alike(2, top, top, -top), []int{top, top}},
		{alike(3, top, top, -top), []int{top, top, 0}},
		{alike(4, top, top, -top), []int{top, top, top, 0}},
		{alike(5, top, top, -top), []int{top, top, top, top, 0}},
		{alike(7, top, top, -top), []int{top, top, top, top, top, 0, 0}},
		{alike(1, -top, top, top), []int{0}},
		{alike(4, -top, top, top), []int{0, 0, top, top}},
		{alike(5, -top, top, top), []int{0, 0, top, top, top}},
		{alike(4, top, -top, top), []int{top, top, 0, top}},
		{alike(10, top, top, top, -top), []int{top, top, top, top, top, top, top, top, 0, 0}},
		{alike(6, top, 1, -1, -top, 3, -3), []int{0, 1, 0, -1, 0, -1}},
	} {
		want := answer(slices.Repeat([][]int{c.sums}, len(c.parts)), nil)
		if got := sumText(c.parts); got != want {
			t.Errorf("Sum(%v) = %s, want %s", c.parts, got, want)
		}
	}
}

// TestG2EveryOrder: of each count of workers, all choices of numbers at the ends
// and near 0, with empty pieces, even ones and uneven ones.
func TestG2EveryOrder(t *testing.T) {
	for crew := 1; crew <= api.MaxCrew; crew++ {
		differ := map[[2]int]int{}
		for _, choice := range everyChoice(crew, -top, 1, top) {
			for _, count := range []int{1, crew - 1, crew, 2*crew + 1} {
				must(t, alike(count, choice...))
			}
			for a := range crew {
				for b := range crew {
					if parts := alike(1, choice...); roundFrom(parts, 0, a) != roundFrom(parts, 0, b) {
						differ[[2]int{a, b}]++
					}
				}
			}
		}
		// Of two workers there is but one sum: Add does not mind which comes first.
		if crew > 2 && len(differ) != crew*(crew-1) {
			t.Errorf("%d workers: the choices do not tell all beginnings apart: %v", crew, differ)
		}
	}
}

// TestG2EveryCount: each count of numbers, cut for each count of workers.
func TestG2EveryCount(t *testing.T) {
	r := rand.New(rand.NewSource(1))
	for crew := 1; crew <= api.MaxCrew; crew++ {
		for count := 0; count <= most; count++ {
			for range 5 {
				must(t, some(r, crew, count, top))
			}
			for shift := range crew {
				numbers := slices.Repeat([]int{top}, crew)
				numbers[shift] = -top
				must(t, alike(count, numbers...))
			}
		}
	}
}

// TestG2NoNumbers: there is still a list for each worker.
func TestG2NoNumbers(t *testing.T) {
	for crew := 1; crew <= api.MaxCrew; crew++ {
		for _, own := range [][]int{nil, {}} {
			l, err := Sum(slices.Repeat([][]int{own}, crew))
			if err != nil || len(l) != crew {
				t.Errorf("%d workers: Sum = %v, %v", crew, l, err)
			}
			for _, sums := range l {
				if len(sums) != 0 {
					t.Errorf("%d workers: Sum = %v", crew, l)
				}
			}
		}
	}
}

// TestG2WorkerHandsOn: a worker alone, whose channels are the test's: of each
// piece it sends its own numbers first, then what came with its own added, and
// then whole sums as they came.
func TestG2WorkerHandsOn(t *testing.T) {
	w := manned([][]int{{1, 2, 3, 4}, {10, 20, 30, 40}, {100, 200, 300, 400}})[1]
	from, to := make(chan []int, 4), make(chan []int, 4)
	w.from, w.to = from, to
	from <- []int{1000}
	from <- []int{2000}
	from <- []int{5, 6}
	from <- []int{7}
	inTime(t, "a worker alone", w.work)
	close(to)
	var sent [][]int
	for l := range to {
		sent = append(sent, l)
	}
	if got, want := fmt.Sprint(sent), "[[10 20] [1040] [2030] [5 6]]"; got != want {
		t.Errorf("it sent %s, want %s", got, want)
	}
	if got, want := fmt.Sprint(w.sums), "[5 6 2030 7]"; got != want {
		t.Errorf("it has %s, want %s", got, want)
	}
}
