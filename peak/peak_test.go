package peak

import (
	"fmt"
	"math"
	"math/rand"
	"slices"
	"testing"

	"galley/api"
	"galley/plain"
	"galley/plan"
)

func TestK1Peaks(t *testing.T) {
	cases := []struct {
		acts   [][]api.Act
		micros int
		want   []int
	}{
		{of("F0 B0"), 1, []int{1}},
		{of("F0 B0", "F0 B0"), 1, []int{1, 1}},
		{of("F0 F1 B0 B1"), 2, []int{2}},
		{of("F0 B0 F1 B1"), 2, []int{1}},
		{of("F1 B1 F0 B0"), 2, []int{1}},
		{of("F1 F0 B0 B1"), 2, []int{2}},
		{of("F0 F1 B0 B1", "F0 B0 F1 B1"), 2, []int{2, 1}},
		// A part that went back makes room for another.
		{of("F0 F1 B0 F2 B1 B2"), 3, []int{2}},
		{of("F0 F1 B1 F2 B2 B0"), 3, []int{2}},
		// One part is kept all along, the others one by one.
		{of("F3 F0 B0 F1 B1 F2 B2 B3"), 4, []int{2}},
		// The most is kept at first, in the middle, at last, and twice.
		{of("F0 F1 F2 B0 B1 B2 F3 B3 F4 B4"), 5, []int{3}},
		{of("F0 B0 F1 F2 F3 B1 B2 B3 F4 B4"), 5, []int{3}},
		{of("F0 B0 F1 B1 F2 F3 F4 B2 B3 B4"), 5, []int{3}},
		{of("F0 F1 B0 B1 F2 B2 F3 F4 B4 B3"), 5, []int{2}},
	}
	for _, c := range cases {
		mustPeaks(t, c.acts, c.micros, c.want...)
	}
}

func TestK1Held(t *testing.T) {
	cases := []struct {
		acts   [][]api.Act
		micros int
		sizes  []int
		want   []int
	}{
		{of("F0 B0"), 1, []int{0}, []int{0}},
		{of("F0 B0"), 1, []int{5}, []int{5}},
		{of("F0 B0", "F0 B0"), 1, []int{5}, []int{5, 5}},
		{of("F0 F1 B0 B1"), 2, []int{3, 4}, []int{7}},
		{of("F0 B0 F1 B1"), 2, []int{3, 4}, []int{4}},
		{of("F0 B0 F1 B1"), 2, []int{4, 3}, []int{4}},
		{of("F1 B1 F0 B0"), 2, []int{3, 4}, []int{4}},
		{of("F0 F1 B0 B1", "F0 B0 F1 B1"), 2, []int{3, 4}, []int{7, 4}},
		{of("F0 F1 B0 B1", "F0 B0 F1 B1"), 2, []int{0, 0}, []int{0, 0}},
		{of("F0 F1 B0 B1", "F0 B0 F1 B1"), 2, []int{9, 0}, []int{9, 9}},
		// What went back is no longer kept, and what did not is.
		{of("F0 F1 B0 F2 B1 B2"), 3, []int{1, 2, 4}, []int{6}},
		{of("F0 F1 B0 F2 B1 B2"), 3, []int{4, 2, 1}, []int{6}},
		{of("F0 F1 B1 F2 B2 B0"), 3, []int{1, 2, 4}, []int{5}},
		{of("F3 F0 B0 F1 B1 F2 B2 B3"), 4, []int{1, 2, 4, 8}, []int{12}},
		// The same places, and another one of them is the greatest.
		{of("F0 F1 B0 B1 F2 F3 B2 B3 F4 F5 B4 B5"), 6, []int{5, 6, 1, 2, 3, 4}, []int{11}},
		{of("F0 F1 B0 B1 F2 F3 B2 B3 F4 F5 B4 B5"), 6, []int{1, 2, 5, 6, 3, 4}, []int{11}},
		{of("F0 F1 B0 B1 F2 F3 B2 B3 F4 F5 B4 B5"), 6, []int{1, 2, 3, 4, 5, 6}, []int{11}},
	}
	for _, c := range cases {
		mustHeld(t, c.acts, c.micros, c.sizes, c.want...)
	}
}

// TestK1MostPartsAreNotTheGreatestSum: one dear part is more than many cheap ones.
func TestK1MostPartsAreNotTheGreatestSum(t *testing.T) {
	cases := []struct {
		acts  [][]api.Act
		sizes []int
		peak  int
		held  int
	}{
		{of("F0 B0 F1 F2 F3 B1 B2 B3"), []int{9, 1, 1, 1}, 3, 9},
		{of("F1 F2 F3 B1 B2 B3 F0 B0"), []int{9, 1, 1, 1}, 3, 9},
		{of("F1 F2 B1 B2 F0 B0 F3 B3"), []int{9, 4, 4, 1}, 2, 9},
		{of("F0 F1 B0 F2 F3 B1 B2 B3"), []int{9, 3, 2, 1}, 3, 12},
		{of("F0 F1 F2 B0 B1 F3 B2 B3"), []int{1, 1, 5, 6}, 3, 11},
		{of("F0 B0 F1 F2 F3 B1 B2 B3"), []int{api.MaxCost, 0, 0, 0}, 3, api.MaxCost},
	}
	for _, c := range cases {
		mustPeaks(t, c.acts, 4, c.peak)
		mustHeld(t, c.acts, 4, c.sizes, c.held)
	}
}

// TestK1UnlikeOrders: stages whose orders are unlike keep unlike much.
func TestK1UnlikeOrders(t *testing.T) {
	acts := of(
		"F1 F0 F2 B1 B2 B0",
		"F1 F0 B1 F2 B0 B2",
		"F1 B1 F0 F2 B2 B0",
	)
	mustPeaks(t, acts, 3, 3, 2, 2)
	mustHeld(t, acts, 3, []int{1, 1, 1}, 3, 2, 2)
	mustHeld(t, acts, 3, []int{1, 2, 4}, 7, 5, 5)
	mustHeld(t, acts, 3, []int{0, 8, 1}, 9, 8, 8)
	mustHeld(t, acts, 3, []int{2, 5, 1}, 8, 7, 5)
	// The parts go back the other way round, in the last stage only.
	acts = of("F0 F1 F2 B0 B1 B2", "F0 F1 B1 B0 F2 B2")
	mustPeaks(t, acts, 3, 3, 2)
	mustHeld(t, acts, 3, []int{3, 4, 9}, 16, 9)
	mustHeld(t, acts, 3, []int{5, 4, 8}, 17, 9)
}

// TestK1EachPartByItself: of sizes that are 0 but for one, a stage holds that
// one, wherever it stands.
func TestK1EachPartByItself(t *testing.T) {
	r := rand.New(rand.NewSource(2))
	for stages := 1; stages <= api.MaxStages; stages++ {
		for micros := 1; micros <= api.MaxMicros; micros++ {
			acts := somePlan(r, stages, micros)
			for part := range micros {
				for _, size := range []int{1, 7, api.MaxCost} {
					sizes := all(micros, 0)
					sizes[part] = size
					mustHeld(t, acts, micros, sizes, all(stages, size)...)
				}
			}
		}
	}
}

// TestK1ForwardToBackward: parts are kept together only if one goes forward
// between the other's Forward and Backward.
func TestK1ForwardToBackward(t *testing.T) {
	r := rand.New(rand.NewSource(3))
	together := func(line []api.Act, a, b int) bool {
		at := func(kind, part int) int { return slices.Index(line, api.Act{Kind: kind, Micro: part}) }
		return at(api.Forward, a) < at(api.Backward, b) && at(api.Forward, b) < at(api.Backward, a)
	}
	for range 300 {
		stages, micros := 1+r.Intn(api.MaxStages), 2+r.Intn(api.MaxMicros-1)
		acts := somePlan(r, stages, micros)
		a := r.Intn(micros)
		b := (a + 1 + r.Intn(micros-1)) % micros
		sizes := all(micros, 0)
		sizes[a], sizes[b] = 300, 20
		var want []int
		for _, line := range acts {
			if together(line, a, b) {
				want = append(want, 320)
			} else {
				want = append(want, 300)
			}
		}
		mustHeld(t, acts, micros, sizes, want...)
	}
}

// TestK1AllSmallPlans: all plans that can be done, of few stages and parts.
func TestK1AllSmallPlans(t *testing.T) {
	r := rand.New(rand.NewSource(11))
	for _, size := range []struct{ stages, micros, count int }{{1, 1, 1}, {6, 1, 1}, {1, 2, 6}, {2, 2, 0}, {3, 2, 0}, {1, 3, 90}, {2, 3, 0}} {
		plans := plansOf(size.stages, size.micros)
		if size.count > 0 && len(plans) != size.count || len(plans) == 0 {
			t.Fatalf("%d plans of %v", len(plans), size)
		}
		for _, acts := range plans {
			mustBoth(t, acts, size.micros, someSizes(r, size.micros))
		}
	}
}

// TestK1AllSmallSizes: all sizes of 0 to 4 of four parts, in plans that are no
// waves and no turns, and in these.
func TestK1AllSmallSizes(t *testing.T) {
	plans := [][][]api.Act{
		of("F1 F0 B1 F2 B0 F3 B3 B2"),
		of("F0 F1 B0 B1 F2 F3 B2 B3", "F0 F1 B0 B1 F3 B3 F2 B2"),
		made(t, "Wave", 2, 4),
		made(t, "Turns", 3, 4),
	}
	for code := range 625 {
		var sizes []int
		for range 4 {
			sizes = append(sizes, code%5)
			code /= 5
		}
		for _, acts := range plans {
			mustBoth(t, acts, 4, sizes)
		}
	}
}

// TestK1AllSizes: some plans of all numbers of stages and parts, and waves and turns.
func TestK1AllSizes(t *testing.T) {
	r := rand.New(rand.NewSource(1))
	for stages := 1; stages <= api.MaxStages; stages++ {
		for micros := 1; micros <= api.MaxMicros; micros++ {
			for range 20 {
				acts := somePlan(r, stages, micros)
				mustBoth(t, acts, micros, someSizes(r, micros))
				// Of parts of one size it hangs on how many there are alone.
				peaks, _ := byPlaces(acts, all(micros, 1))
				for _, size := range []int{0, 1, 3, api.MaxCost} {
					var want []int
					for _, count := range peaks {
						want = append(want, count*size)
					}
					mustHeld(t, acts, micros, all(micros, size), want...)
				}
			}
			for name := range makers() {
				mustBoth(t, made(t, name, stages, micros), micros, someSizes(r, micros))
			}
		}
	}
}

// TestK1Edges: the least and the greatest of all numbers.
func TestK1Edges(t *testing.T) {
	mustHeld(t, of("F0 B0"), 1, []int{api.MaxCost}, 1000000)
	for _, stages := range []int{1, api.MaxStages} {
		for _, micros := range []int{1, api.MaxMicros} {
			var oneByOne, inside []api.Act
			for part := range micros {
				oneByOne = append(oneByOne, api.Act{Kind: api.Forward, Micro: part}, api.Act{Kind: api.Backward, Micro: part})
				inside = append(inside, api.Act{Kind: api.Forward, Micro: part})
			}
			for part := micros - 1; part >= 0; part-- {
				inside = append(inside, api.Act{Kind: api.Backward, Micro: part})
			}
			acts := slices.Repeat([][]api.Act{oneByOne}, stages)
			mustPeaks(t, acts, micros, all(stages, 1)...)
			mustHeld(t, acts, micros, all(micros, 0), all(stages, 0)...)
			mustHeld(t, acts, micros, all(micros, api.MaxCost), all(stages, api.MaxCost)...)
			acts = slices.Repeat([][]api.Act{inside}, stages)
			mustPeaks(t, acts, micros, all(stages, micros)...)
			mustHeld(t, acts, micros, all(micros, 0), all(stages, 0)...)
			mustHeld(t, acts, micros, all(micros, api.MaxCost), all(stages, micros*api.MaxCost)...)
		}
	}
}

// TestK1PlansThatAreWrong: what Check tells of a plan, both tell of it.
func TestK1PlansThatAreWrong(t *testing.T) {
	cases := []struct {
		name   string
		acts   [][]api.Act
		micros int
		told   api.Errno
	}{
		{"no stages", nil, 1, api.ErrRange},
		{"too many stages", of("F0 B0", "F0 B0", "F0 B0", "F0 B0", "F0 B0", "F0 B0", "F0 B0"), 1, api.ErrRange},
		{"no parts", of("F0 B0"), 0, api.ErrRange},
		{"no parts and no acts", of(""), 0, api.ErrRange},
		{"parts below 0", of("F0 B0"), -1, api.ErrRange},
		{"too many parts", of("F0 B0"), 13, api.ErrRange},
		{"all of too many parts", [][]api.Act{actsOf(13)}, 13, api.ErrRange},
		{"least parts", of("F0 B0"), math.MinInt, api.ErrRange},
		{"greatest parts", of("F0 B0"), math.MaxInt, api.ErrRange},
		{"a Kind below", of("Z0 B0"), 1, api.ErrRange},
		{"a Kind above", of("F0 X0"), 1, api.ErrRange},
		{"a part below", of("F-1 B0"), 1, api.ErrRange},
		{"a part above", of("F0 B1"), 1, api.ErrRange},
		{"a part of no number", of("F0 B0", "F0 B9223372036854775807"), 1, api.ErrRange},
		{"one twice", of("F0 B0 B0"), 1, api.ErrTwice},
		{"one missing", of("F0"), 1, api.ErrShape},
		{"no acts", of(""), 1, api.ErrShape},
		{"no acts of the last", of("F0 B0", ""), 1, api.ErrShape},
		{"back ahead of there", of("B0 F0"), 1, api.ErrOrder},
		{"stuck", of("F0 B0 F1 B1", "F0 F1 B0 B1"), 2, api.ErrStuck},
		{"stuck forward", of("F0 B0 F1 B1", "F1 B1 F0 B0"), 2, api.ErrStuck},
	}
	for _, c := range cases {
		if told := plain.Told(plan.Check(c.acts, c.micros)); told != c.told {
			t.Errorf("%s: Check tells %v, want %v", c.name, told, c.told)
		}
		refusePeaks(t, c.name, c.acts, c.micros, c.told)
		// Whatever else is wrong, the plan comes first.
		for count := range 15 {
			for _, x := range []int{0, api.MaxCost, -1, api.MaxCost + 1, math.MinInt, math.MaxInt} {
				refuseHeld(t, c.name, c.acts, c.micros, all(count, x), c.told)
			}
		}
	}
}

// TestK1HowManySizes: there is a size for each part, else that is told ahead of
// what the sizes are. How many stages there are has no say in it.
func TestK1HowManySizes(t *testing.T) {
	for stages := 1; stages <= api.MaxStages; stages++ {
		for micros := 1; micros <= api.MaxMicros; micros++ {
			acts := made(t, "Turns", stages, micros)
			for count := range api.MaxMicros + 3 {
				for _, x := range []int{0, 1, api.MaxCost, -1, api.MaxCost + 1, math.MinInt, math.MaxInt} {
					if count != micros {
						refuseHeld(t, fmt.Sprint(count, " sizes"), acts, micros, all(count, x), api.ErrShape)
					}
				}
			}
			mustBoth(t, acts, micros, all(micros, 2))
		}
	}
}

// TestK1SizesThatAreWrong: one size that is none, at each place, and all of them.
func TestK1SizesThatAreWrong(t *testing.T) {
	wrong := []int{-1, -api.MaxCost, math.MinInt, api.MaxCost + 1, math.MaxInt}
	for _, stages := range []int{1, 2, api.MaxStages} {
		for micros := 1; micros <= api.MaxMicros; micros++ {
			for name := range makers() {
				acts := made(t, name, stages, micros)
				for _, x := range wrong {
					refuseHeld(t, "all", acts, micros, all(micros, x), api.ErrRange)
					for part := range micros {
						for _, other := range []int{0, 1, api.MaxCost} {
							sizes := all(micros, other)
							sizes[part] = x
							refuseHeld(t, fmt.Sprint(sized(name, stages, micros), ", part ", part), acts, micros, sizes, api.ErrRange)
						}
					}
				}
			}
		}
	}
	// What is too much at one place is not made good by too little at another.
	refuseHeld(t, "both", of("F0 F1 B0 B1"), 2, []int{-1, api.MaxCost + 1}, api.ErrRange)
	refuseHeld(t, "both", of("F0 F1 B0 B1"), 2, []int{api.MaxCost + 1, -1}, api.ErrRange)
}

// TestK2WavesAndTurns: all that may be. A wave keeps all parts; of turns a stage
// keeps as many as there are stages from it on, or all, if they are fewer.
func TestK2WavesAndTurns(t *testing.T) {
	for stages := 1; stages <= api.MaxStages; stages++ {
		for micros := 1; micros <= api.MaxMicros; micros++ {
			var turns []int
			for stage := range stages {
				turns = append(turns, min(stages-stage, micros))
			}
			mustPeaks(t, made(t, "Wave", stages, micros), micros, all(stages, micros)...)
			mustPeaks(t, made(t, "Turns", stages, micros), micros, turns...)
			for _, size := range []int{0, 1, 5, api.MaxCost} {
				for stage := range turns {
					turns[stage] = min(stages-stage, micros) * size
				}
				mustHeld(t, made(t, "Wave", stages, micros), micros, all(micros, size), all(stages, micros*size)...)
				mustHeld(t, made(t, "Turns", stages, micros), micros, all(micros, size), turns...)
			}
		}
	}
}

// TestK2UnlikeSizes: a wave holds all sizes; of turns a stage holds those of so
// many parts that stand beside one another, wherever these are the dearest.
func TestK2UnlikeSizes(t *testing.T) {
	r := rand.New(rand.NewSource(5))
	for stages := 1; stages <= api.MaxStages; stages++ {
		for micros := 1; micros <= api.MaxMicros; micros++ {
			for range 5 {
				sizes := someSizes(r, micros)
				sum := func(parts []int) (whole int) {
					for _, size := range parts {
						whole += size
					}
					return whole
				}
				var turns []int
				for stage := range stages {
					wide, most := min(stages-stage, micros), 0
					for first := range micros - wide + 1 {
						most = max(most, sum(sizes[first:first+wide]))
					}
					turns = append(turns, most)
				}
				mustHeld(t, made(t, "Wave", stages, micros), micros, sizes, all(stages, sum(sizes))...)
				mustHeld(t, made(t, "Turns", stages, micros), micros, sizes, turns...)
			}
		}
	}
}

// TestRuleP1EveryCallEnds: whatever is handed in, something is told, and it is
// what the plan, how many sizes there are, and the sizes are, in this order.
func TestRuleP1EveryCallEnds(t *testing.T) {
	r := rand.New(rand.NewSource(9))
	some := []int{math.MinInt, -1, 0, 1, 2, 3, 12, 13, api.MaxCost, api.MaxCost + 1, math.MaxInt}
	tolds := map[api.Errno]int{}
	for range 40000 {
		stages, micros := r.Intn(4), r.Intn(4)
		var acts [][]api.Act
		for range stages {
			if r.Intn(20) == 0 {
				acts = append(acts, []api.Act{{Kind: some[r.Intn(len(some))], Micro: some[r.Intn(len(some))]}})
				continue
			}
			line := actsOf(micros)
			if r.Intn(2) == 0 {
				r.Shuffle(len(line), func(i, j int) { line[i], line[j] = line[j], line[i] })
			}
			acts = append(acts, line)
		}
		sizes := someSizes(r, max(0, micros+r.Intn(9)/8-r.Intn(9)/8))
		if len(sizes) > 0 && r.Intn(4) == 0 {
			sizes[r.Intn(len(sizes))] = some[r.Intn(len(some))]
		}
		ofPlan := plain.Told(plan.Check(acts, micros))
		if ofPlan != api.OK {
			refusePeaks(t, "anything", acts, micros, ofPlan)
		}
		told := toldOfHeld(ofPlan, micros, sizes)
		tolds[told]++
		if told != api.OK {
			refuseHeld(t, "anything", acts, micros, sizes, told)
			continue
		}
		mustBoth(t, acts, micros, sizes)
	}
	for _, told := range []api.Errno{api.OK, api.ErrRange, api.ErrShape, api.ErrOrder, api.ErrStuck} {
		if tolds[told] == 0 {
			t.Errorf("%v was never told: %v", told, tolds)
		}
	}
}

// toldOfHeld is what the chapter says of all that Held is handed, in its order.
func toldOfHeld(ofPlan api.Errno, micros int, sizes []int) api.Errno {
	if ofPlan != api.OK {
		return ofPlan
	}
	if len(sizes) != micros {
		return api.ErrShape
	}
	for _, size := range sizes {
		if size < 0 || size > 1000000 {
			return api.ErrRange
		}
	}
	return api.OK
}

// TestByPlaces holds the tests' own reckoning against one done by hand.
func TestByPlaces(t *testing.T) {
	acts := of("F0 F1 B0 F2 B1 B2", "F0 B0 F1 F2 B1 B2")
	for place, want := range [][]int{{0}, {0, 1}, {1}, {1, 2}, {2}, nil} {
		if got := kept(acts[0], place); !slices.Equal(got, want) {
			t.Errorf("behind act %d %v are kept, want %v", place, got, want)
		}
	}
	peaks, held := byPlaces(acts, []int{7, 1, 2})
	if !slices.Equal(peaks, []int{2, 2}) || !slices.Equal(held, []int{8, 7}) {
		t.Errorf("by places it is %v and %v", peaks, held)
	}
}
