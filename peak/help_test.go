package peak

import (
	"fmt"
	"math/rand"
	"slices"
	"strconv"
	"strings"
	"testing"

	"galley/api"
	"galley/plain"
	"galley/plan"
)

// of reads a plan, a text for each stage: F and B are Forward and Backward, Z
// and X the Kinds that are none, below and above.
func of(stages ...string) [][]api.Act {
	var acts [][]api.Act
	for _, text := range stages {
		var line []api.Act
		for _, word := range strings.Fields(text) {
			part, err := strconv.Atoi(word[1:])
			if err != nil {
				panic(err)
			}
			line = append(line, api.Act{Kind: strings.Index("ZFBX", word[:1]), Micro: part})
		}
		acts = append(acts, line)
	}
	return acts
}

// all has the same number for each place.
func all(places, x int) []int { return slices.Repeat([]int{x}, places) }

// orders has all orders of some acts.
func orders(acts []api.Act) [][]api.Act {
	if len(acts) == 0 {
		return [][]api.Act{nil}
	}
	var found [][]api.Act
	for i, first := range acts {
		rest := slices.Delete(slices.Clone(acts), i, i+1)
		for _, order := range orders(rest) {
			found = append(found, append([]api.Act{first}, order...))
		}
	}
	return found
}

// actsOf has all acts of so many parts, all forward first.
func actsOf(micros int) []api.Act {
	var found []api.Act
	for _, kind := range []int{api.Forward, api.Backward} {
		for part := range micros {
			found = append(found, api.Act{Kind: kind, Micro: part})
		}
	}
	return found
}

// plansOf has all plans of so many stages and parts that can be done.
func plansOf(stages, micros int) [][][]api.Act {
	choices := slices.DeleteFunc(orders(actsOf(micros)), func(acts []api.Act) bool {
		return plan.Check([][]api.Act{acts}, micros) != nil
	})
	found := [][][]api.Act{nil}
	for range stages {
		var longer [][][]api.Act
		for _, ahead := range found {
			for _, acts := range choices {
				longer = append(longer, append(slices.Clone(ahead), acts))
			}
		}
		found = longer
	}
	return slices.DeleteFunc(found, func(one [][]api.Act) bool { return plan.Check(one, micros) != nil })
}

// somePlan has acts put down in an order in which they can be done, so each
// stage has its own order, and the plan can be done.
func somePlan(r *rand.Rand, stages, micros int) [][]api.Act {
	made := make([][]api.Act, stages)
	steps := make([]int, micros) // how far each part is on its way there and back
	for range 2 * stages * micros {
		part := r.Intn(micros)
		for steps[part] == 2*stages {
			part = (part + 1) % micros
		}
		if stage := steps[part]; stage < stages {
			made[stage] = append(made[stage], api.Act{Kind: api.Forward, Micro: part})
		} else {
			stage = 2*stages - 1 - stage
			made[stage] = append(made[stage], api.Act{Kind: api.Backward, Micro: part})
		}
		steps[part]++
	}
	return made
}

// someSizes has a size for each part, the least and the greatest ones often.
func someSizes(r *rand.Rand, micros int) []int {
	var sizes []int
	for range micros {
		sizes = append(sizes, []int{0, 1, r.Intn(10), r.Intn(api.MaxCost + 1), api.MaxCost}[r.Intn(5)])
	}
	return sizes
}

// kept has the parts that a stage keeps behind the act at a place: those whose
// Forward stands there or ahead, and whose Backward is still to come.
func kept(acts []api.Act, place int) []int {
	var parts []int
	for part := range len(acts) / 2 {
		there := slices.Index(acts, api.Act{Kind: api.Forward, Micro: part})
		back := slices.Index(acts, api.Act{Kind: api.Backward, Micro: part})
		if there <= place && place < back {
			parts = append(parts, part)
		}
	}
	return parts
}

// byPlaces looks at each place of each stage's acts by itself, and tells the
// most parts and the greatest sum of all places.
func byPlaces(acts [][]api.Act, sizes []int) (peaks, held []int) {
	for _, line := range acts {
		var counts, sums []int
		for place := range line {
			parts, sum := kept(line, place), 0
			for _, part := range parts {
				sum += sizes[part]
			}
			counts, sums = append(counts, len(parts)), append(sums, sum)
		}
		peaks, held = append(peaks, slices.Max(counts)), append(held, slices.Max(sums))
	}
	return peaks, held
}

func mustPeaks(t *testing.T, acts [][]api.Act, micros int, want ...int) {
	t.Helper()
	if got, err := Peaks(acts, micros); err != nil || !slices.Equal(got, want) {
		t.Errorf("Peaks(%v, %d) = %v, %v, want %v", acts, micros, got, err, want)
	}
}

func mustHeld(t *testing.T, acts [][]api.Act, micros int, sizes []int, want ...int) {
	t.Helper()
	if got, err := Held(acts, micros, sizes); err != nil || !slices.Equal(got, want) {
		t.Errorf("Held(%v, %d, %v) = %v, %v, want %v", acts, micros, sizes, got, err, want)
	}
}

// mustBoth asks both of a plan, and holds them against a look at each place.
func mustBoth(t *testing.T, acts [][]api.Act, micros int, sizes []int) {
	t.Helper()
	peaks, held := byPlaces(acts, sizes)
	mustPeaks(t, acts, micros, peaks...)
	mustHeld(t, acts, micros, sizes, held...)
}

func refusePeaks(t *testing.T, name string, acts [][]api.Act, micros int, told api.Errno) {
	t.Helper()
	got, err := Peaks(acts, micros)
	if len(got) != 0 || plain.Told(err) != told {
		t.Errorf("%s: Peaks(%v, %d) = %v, %v, want nothing and %v", name, acts, micros, got, err, told)
	}
}

func refuseHeld(t *testing.T, name string, acts [][]api.Act, micros int, sizes []int, told api.Errno) {
	t.Helper()
	got, err := Held(acts, micros, sizes)
	if len(got) != 0 || plain.Told(err) != told {
		t.Errorf("%s: Held(%v, %d, %v) = %v, %v, want nothing and %v", name, acts, micros, sizes, got, err, told)
	}
}

type maker func(stages, micros int) ([][]api.Act, error)

// makers are those of package plan, by their names.
func makers() map[string]maker { return map[string]maker{"Wave": plan.Wave, "Turns": plan.Turns} }

func made(t *testing.T, name string, stages, micros int) [][]api.Act {
	t.Helper()
	acts, err := makers()[name](stages, micros)
	if err != nil {
		t.Fatalf("%s(%d, %d): %v", name, stages, micros, err)
	}
	return acts
}

func sized(name string, stages, micros int) string {
	return fmt.Sprint(name, " of ", stages, " stages, ", micros, " parts")
}
