package rings

import (
	"fmt"
	"math"
	"slices"
	"testing"

	"galley/api"
)

// TestG1HowManyWorkers: from 1 to MaxCrew, whatever they have.
func TestG1HowManyWorkers(t *testing.T) {
	refuse(t, "nil", nil, api.ErrRange)
	refuse(t, "no workers", [][]int{}, api.ErrRange)
	for crew := 1; crew <= api.MaxCrew; crew++ {
		must(t, alike(3, make([]int, crew)...))
	}
	for _, crew := range []int{7, 8, 100} {
		for _, count := range []int{0, 1, most, most + 1} {
			refuse(t, fmt.Sprint(crew, " workers of ", count), alike(count, make([]int, crew)...), api.ErrRange)
		}
	}
	refuse(t, "7 workers, not alike", append(alike(2, 0, 0, 0, 0, 0, 0), []int{1}), api.ErrRange)
	refuse(t, "7 workers, not alike at once", append([][]int{{1}}, alike(2, 0, 0, 0, 0, 0, 0)...), api.ErrRange)
}

// TestG1AsManyNumbersEach: one worker has more or fewer than all others.
func TestG1AsManyNumbersEach(t *testing.T) {
	for crew := 2; crew <= api.MaxCrew; crew++ {
		for _, count := range []int{0, 1, 5, most - 1, most} {
			for worker := range crew {
				for _, other := range []int{0, count - 1, count + 1, 2*count + 1, 1000} {
					parts := alike(count, make([]int, crew)...)
					if other < 0 || other == count || worker == 0 && other > most {
						continue
					}
					parts[worker] = make([]int, other)
					name := fmt.Sprintf("%d workers of %d, worker %d of %d", crew, count, worker, other)
					refuse(t, name, parts, api.ErrShape)
				}
			}
		}
	}
}

// TestG1HowManyNumbers: 60 at most.
func TestG1HowManyNumbers(t *testing.T) {
	for crew := 1; crew <= api.MaxCrew; crew++ {
		for _, count := range []int{0, 1, most - 1, most} {
			must(t, alike(count, make([]int, crew)...))
		}
		for _, count := range []int{most + 1, most + 2, 1000} {
			refuse(t, fmt.Sprint(crew, " workers of ", count), alike(count, make([]int, crew)...), api.ErrFull)
		}
	}
}

// TestG1WhichNumbers: from -Top to Top, at whichever worker and place.
func TestG1WhichNumbers(t *testing.T) {
	for crew := 1; crew <= api.MaxCrew; crew++ {
		for worker := range crew {
			for _, place := range []int{0, 3, most - 1} {
				for _, x := range []int{-top, 1 - top, -1, 0, 1, top - 1, top} {
					parts := alike(most, make([]int, crew)...)
					parts[worker][place] = x
					must(t, parts)
				}
				for _, x := range []int{top + 1, -top - 1, 1 << 32, -1 << 32, math.MaxInt, math.MinInt} {
					parts := alike(most, make([]int, crew)...)
					parts[worker][place] = x
					name := fmt.Sprintf("%d at %d of worker %d of %d", x, place, worker, crew)
					refuse(t, name, parts, api.ErrRange)
				}
			}
		}
	}
}

// TestG1WhatIsToldFirst: several things are wrong. One worker is looked at
// wholly, and then the next one.
func TestG1WhatIsToldFirst(t *testing.T) {
	long, beyond := make([]int, most+1), []int{0, top + 1}
	longBeyond := append(slices.Clone(long), -top-1)
	for _, c := range []struct {
		name  string
		parts [][]int
		told  api.Errno
	}{
		{"7 workers that are too long", [][]int{long, long, long, long, long, long, long}, api.ErrRange},
		{"one worker, full and beyond", [][]int{longBeyond}, api.ErrFull},
		{"all full and beyond", [][]int{longBeyond, longBeyond}, api.ErrFull},
		{"the first full, the next other", [][]int{long, {1}}, api.ErrFull},
		{"the first full, the next none", [][]int{long, nil}, api.ErrFull},
		{"the first full, the next longer", [][]int{long, longBeyond}, api.ErrFull},
		{"the first full, the last beyond", [][]int{long, long, beyond}, api.ErrFull},
		{"the first beyond, the next other", [][]int{beyond, {1}}, api.ErrRange},
		{"the first beyond, the next none", [][]int{beyond, nil}, api.ErrRange},
		{"the first beyond, the next full", [][]int{beyond, long}, api.ErrRange},
		{"the next other and beyond", [][]int{{1}, beyond}, api.ErrShape},
		{"the next full and beyond", [][]int{{1, 2}, longBeyond}, api.ErrShape},
		{"the next full, behind 60", [][]int{make([]int, most), long}, api.ErrShape},
		{"the next other, the last beyond", [][]int{{1, 2}, {1}, beyond}, api.ErrShape},
		{"the next beyond, the last other", [][]int{{1, 2}, beyond, {1}}, api.ErrRange},
		{"the next beyond, the last full", [][]int{{1, 2}, beyond, long}, api.ErrRange},
		{"the next beyond, the last full and beyond", [][]int{{1, 2}, {1, 2}, beyond, {1, 2}, {1, 2}, longBeyond}, api.ErrRange},
		{"none, and then beyond", [][]int{nil, {}, {top + 1}}, api.ErrShape},
	} {
		refuse(t, c.name, c.parts, c.told)
	}
}

// toldOf is what the chapter says is wrong, of one sort of worker behind the other.
func toldOf(parts [][]int) api.Errno {
	if len(parts) == 0 || len(parts) > 6 {
		return api.ErrRange
	}
	for _, own := range parts {
		switch {
		case len(own) != len(parts[0]):
			return api.ErrShape
		case len(own) > 60:
			return api.ErrFull
		case len(own) > 0 && (slices.Max(own) > top || slices.Min(own) < -top):
			return api.ErrRange
		}
	}
	return api.OK
}

// TestG1AllSorts puts together workers of all sorts.
func TestG1AllSorts(t *testing.T) {
	sorts := [][]int{nil, {}, {5}, {-top - 1}, {top, 1}, {1, math.MinInt}, make([]int, most), make([]int, most+1), slices.Repeat([]int{math.MaxInt}, most+1)}
	var which []int
	for i := range sorts {
		which = append(which, i)
	}
	count := map[api.Errno]int{}
	for crew := range 5 {
		for _, choice := range everyChoice(crew, which...) {
			var parts [][]int
			for _, i := range choice {
				parts = append(parts, sorts[i])
			}
			told := toldOf(parts)
			count[told]++
			if told == api.OK {
				must(t, parts)
				continue
			}
			refuse(t, fmt.Sprint(parts), parts, told)
		}
	}
	for _, told := range []api.Errno{api.OK, api.ErrShape, api.ErrFull, api.ErrRange} {
		if count[told] < 5 {
			t.Errorf("few of a sort: %v", count)
		}
	}
}
