package clock

import (
	"fmt"
	"math"
	"math/rand"
	"reflect"
	"testing"

	"galley/api"
	"galley/plain"
	"galley/plan"
)

func TestC1Times(t *testing.T) {
	cases := []struct {
		acts        [][]api.Act
		micros      int
		there, back []int
		want        [][]api.Span
	}{
		{of("F0 B0"), 1, []int{1}, []int{1}, at("0-1 1-2")},
		{of("F0 B0"), 1, []int{3}, []int{5}, at("0-3 3-8")},
		{of("F0 B0", "F0 B0"), 1, []int{1, 2}, []int{3, 4}, at("0-1 7-10", "1-3 3-7")},
		{of("F0 B0", "F0 B0", "F0 B0"), 1, []int{1, 2, 4}, []int{8, 16, 32}, at("0-1 55-63", "1-3 39-55", "3-7 7-39")},
		{of("F0 F1 B0 B1"), 2, []int{2}, []int{3}, at("0-2 2-4 4-7 7-10")},
		{of("F1 F0 B0 B1"), 2, []int{2}, []int{3}, at("0-2 2-4 4-7 7-10")},
		{of("F0 B0 F1 B1"), 2, []int{2}, []int{3}, at("0-2 2-5 5-7 7-10")},
		{of("F0 F1 B0 B1", "F0 F1 B0 B1"), 2, []int{1, 1}, []int{2, 2}, at("0-1 1-2 5-7 7-9", "1-2 2-3 3-5 5-7")},
		{of("F0 F1 B0 B1", "F0 B0 F1 B1"), 2, []int{1, 1}, []int{2, 2}, at("0-1 1-2 4-6 7-9", "1-2 2-4 4-5 5-7")},
		// The first stage is slow: the last one waits for each part.
		{of("F0 F1 B0 B1", "F0 B0 F1 B1"), 2, []int{9, 1}, []int{9, 1}, at("0-9 9-18 18-27 27-36", "9-10 10-11 18-19 19-20")},
		// The last stage is slow: the first one waits until it goes back.
		{of("F0 F1 B0 B1", "F0 B0 F1 B1"), 2, []int{1, 9}, []int{1, 9}, at("0-1 1-2 19-20 37-38", "1-10 10-19 19-28 28-37")},
	}
	for _, c := range cases {
		mustTimes(t, c.acts, c.micros, c.there, c.back, c.want)
	}
}

// TestC1OtherPlans: plans that are no waves and no turns.
func TestC1OtherPlans(t *testing.T) {
	cases := []struct {
		acts        [][]api.Act
		there, back []int
		want        [][]api.Span
	}{
		// One part at a time.
		{of("F0 B0 F1 B1", "F0 B0 F1 B1"), []int{1, 2}, []int{3, 4}, at("0-1 7-10 10-11 17-20", "1-3 3-7 11-13 13-17")},
		// The parts go back the other way round.
		{of("F0 F1 B1 B0", "F0 F1 B1 B0"), []int{1, 2}, []int{3, 4}, at("0-1 1-2 9-12 13-16", "1-3 3-5 5-9 9-13")},
		// The later part goes first.
		{of("F1 F0 B0 B1", "F1 F0 B0 B1"), []int{1, 2}, []int{3, 4}, at("0-1 1-2 9-12 13-16", "1-3 3-5 5-9 9-13")},
		// The stages have unlike orders: the last one waits for part 1, then has both.
		{of("F0 F1 B1 B0", "F1 F0 B1 B0"), []int{5, 1}, []int{1, 7}, at("0-5 5-10 19-20 26-27", "10-11 11-12 12-19 19-26")},
		// The first stage waits for part 0, though part 1 has gone back long ago.
		{of("F0 F1 B0 B1", "F0 F1 B1 B0"), []int{1, 1}, []int{1, 5}, at("0-1 1-2 13-14 14-15", "1-2 2-3 3-8 8-13")},
	}
	for _, c := range cases {
		mustTimes(t, c.acts, 2, c.there, c.back, c.want)
	}
}

// TestC1AllSmallPlans: all plans that can be done, of few stages and parts.
func TestC1AllSmallPlans(t *testing.T) {
	r := rand.New(rand.NewSource(11))
	for _, size := range []struct{ stages, micros, count int }{{1, 1, 1}, {6, 1, 1}, {1, 2, 6}, {2, 2, 0}, {3, 2, 0}, {1, 3, 90}, {2, 3, 0}} {
		plans := plansOf(size.stages, size.micros)
		if size.count > 0 && len(plans) != size.count || len(plans) == 0 {
			t.Fatalf("%d plans of %v", len(plans), size)
		}
		for _, acts := range plans {
			there, back := someTimes(r, size.stages, 4), someTimes(r, size.stages, 4)
			mustTimes(t, acts, size.micros, there, back, byMinutes(acts, there, back))
		}
	}
}

// TestC1AllSmallTimes: all times of 1 to 3 of three stages, in a plan that is
// neither, and in a wave and turns.
func TestC1AllSmallTimes(t *testing.T) {
	plans := [][][]api.Act{
		of("F1 F0 F2 B1 B2 B0", "F1 F0 B1 F2 B0 B2", "F1 B1 F0 F2 B2 B0"),
		made(t, "Wave", 3, 3),
		made(t, "Turns", 3, 3),
	}
	for code := range 729 {
		var times []int
		for range 6 {
			times = append(times, 1+code%3)
			code /= 3
		}
		there, back := times[:3], times[3:]
		for _, acts := range plans {
			mustTimes(t, acts, 3, there, back, byMinutes(acts, there, back))
		}
	}
}

// TestC1AllSizes: some plans of all sizes, and waves and turns, of stages that
// take unlike times.
func TestC1AllSizes(t *testing.T) {
	r := rand.New(rand.NewSource(1))
	for stages := 1; stages <= api.MaxStages; stages++ {
		for micros := 1; micros <= api.MaxMicros; micros++ {
			plans := map[string][][]api.Act{"Wave": made(t, "Wave", stages, micros), "Turns": made(t, "Turns", stages, micros)}
			for i := range 4 {
				plans[fmt.Sprint("some plan ", i)] = somePlan(r, stages, micros)
			}
			for name, acts := range plans {
				there, back := someTimes(r, stages, 5), someTimes(r, stages, 5)
				mustTimes(t, acts, micros, there, back, byMinutes(acts, there, back))
				there, back = someTimes(r, stages, api.MaxCost), someTimes(r, stages, api.MaxCost)
				mustBeTight(t, sized(name, stages, micros), acts, there, back, tell(t, acts, micros, there, back))
			}
		}
	}
}

// TestC1Edges: the least and the greatest of all numbers.
func TestC1Edges(t *testing.T) {
	const most = api.MaxCost
	mustTimes(t, of("F0 B0"), 1, []int{most}, []int{1}, at("0-1000000 1000000-1000001"))
	mustTimes(t, of("F0 B0"), 1, []int{1}, []int{most}, at("0-1 1-1000001"))
	for _, stages := range []int{1, api.MaxStages} {
		for _, micros := range []int{1, api.MaxMicros} {
			for _, there := range []int{1, most} {
				for _, back := range []int{1, most} {
					mustBeSteady(t, stages, micros, there, back)
				}
			}
		}
	}
	// One stage of great times among stages of small ones, each in its turn.
	for dear := range api.MaxStages {
		there, back := all(api.MaxStages, 1), all(api.MaxStages, 1)
		there[dear], back[dear] = most, most
		for name := range makers() {
			acts := made(t, name, api.MaxStages, api.MaxMicros)
			spans := tell(t, acts, api.MaxMicros, there, back)
			mustBeTight(t, name, acts, there, back, spans)
		}
	}
}

// mustBeSteady reckons a wave without waiting: each act's place tells its time.
func mustBeSteady(t *testing.T, stages, micros, there, back int) {
	t.Helper()
	var want [][]api.Span
	turn := (stages + micros - 1) * there
	for stage := range stages {
		var line []api.Span
		for part := range micros {
			line = append(line, api.Span{From: (stage + part) * there, To: (stage + part + 1) * there})
		}
		for part := range micros {
			from := turn + (stages-1-stage+part)*back
			line = append(line, api.Span{From: from, To: from + back})
		}
		want = append(want, line)
	}
	mustTimes(t, made(t, "Wave", stages, micros), micros, all(stages, there), all(stages, back), want)
}

// TestC1PlansThatAreWrong: what Check tells of a plan, Times tells of it.
func TestC1PlansThatAreWrong(t *testing.T) {
	cases := []struct {
		name   string
		acts   [][]api.Act
		micros int
		told   api.Errno
	}{
		{"no stages", nil, 1, api.ErrRange},
		{"too many stages", of("F0 B0", "F0 B0", "F0 B0", "F0 B0", "F0 B0", "F0 B0", "F0 B0"), 1, api.ErrRange},
		{"no parts", of("F0 B0"), 0, api.ErrRange},
		{"parts below 0", of("F0 B0"), -1, api.ErrRange},
		{"too many parts", of("F0 B0"), 13, api.ErrRange},
		{"least parts", of("F0 B0"), math.MinInt, api.ErrRange},
		{"greatest parts", of("F0 B0"), math.MaxInt, api.ErrRange},
		{"a Kind below", of("Z0 B0"), 1, api.ErrRange},
		{"a Kind above", of("F0 X0"), 1, api.ErrRange},
		{"a part below", of("F-1 B0"), 1, api.ErrRange},
		{"a part above", of("F0 B1"), 1, api.ErrRange},
		{"one twice", of("F0 B0 B0"), 1, api.ErrTwice},
		{"one missing", of("F0"), 1, api.ErrShape},
		{"no acts", of(""), 1, api.ErrShape},
		{"no acts of the last", of("F0 B0", ""), 1, api.ErrShape},
		{"back ahead of there", of("B0 F0"), 1, api.ErrOrder},
		{"stuck", of("F0 B0 F1 B1", "F0 F1 B0 B1"), 2, api.ErrStuck},
		{"stuck forward", of("F0 B0 F1 B1", "F1 B1 F0 B0"), 2, api.ErrStuck},
	}
	for _, c := range cases {
		if told := plain.Told(plan.Check(c.acts, c.micros)); told != c.told {
			t.Errorf("%s: Check tells %v, want %v", c.name, told, c.told)
		}
		// Whatever else is wrong, the plan comes first.
		for _, there := range [][]int{all(len(c.acts), 1), nil, all(len(c.acts)+1, 1), all(len(c.acts), 0), all(len(c.acts)+1, math.MaxInt)} {
			for _, back := range [][]int{all(len(c.acts), 1), nil, all(len(c.acts)+1, 1), all(len(c.acts), 0), all(len(c.acts)+1, math.MinInt)} {
				refuseTimes(t, c.name, c.acts, c.micros, there, back, c.told)
			}
		}
	}
}

// TestC1HowManyNumbers: there and back have a number for each stage, else that
// is told ahead of what the numbers are.
func TestC1HowManyNumbers(t *testing.T) {
	for stages := 1; stages <= api.MaxStages; stages++ {
		acts := made(t, "Turns", stages, 2)
		for theres := range api.MaxStages + 3 {
			for backs := range api.MaxStages + 3 {
				if theres == stages && backs == stages {
					continue
				}
				name := fmt.Sprint(theres, " and ", backs, " numbers")
				for _, x := range []int{1, 0, api.MaxCost + 1, math.MinInt, math.MaxInt} {
					refuseTimes(t, name, acts, 2, all(theres, 1), all(backs, x), api.ErrShape)
					refuseTimes(t, name, acts, 2, all(theres, x), all(backs, 1), api.ErrShape)
				}
			}
		}
	}
}

// TestC1NumbersThatAreWrong: one number that is none, at each place.
func TestC1NumbersThatAreWrong(t *testing.T) {
	for stages := 1; stages <= api.MaxStages; stages++ {
		for name := range makers() {
			acts := made(t, name, stages, 3)
			for stage := range stages {
				for _, x := range []int{0, -1, -api.MaxCost, math.MinInt, api.MaxCost + 1, math.MaxInt} {
					wrong := all(stages, 1)
					wrong[stage] = x
					where := fmt.Sprint(sized(name, stages, 3), ", stage ", stage)
					refuseTimes(t, where+" there", acts, 3, wrong, all(stages, api.MaxCost), api.ErrRange)
					refuseTimes(t, where+" back", acts, 3, all(stages, api.MaxCost), wrong, api.ErrRange)
					refuseTimes(t, where+" both", acts, 3, wrong, wrong, api.ErrRange)
				}
			}
		}
	}
}

// TestC3WavesAndTurns: where all stages take the same, both are as long, and
// each stage is idle as long as any other.
func TestC3WavesAndTurns(t *testing.T) {
	times := []int{1, 2, 3, 7, 1000, api.MaxCost - 1, api.MaxCost}
	for stages := 1; stages <= api.MaxStages; stages++ {
		for micros := 1; micros <= api.MaxMicros; micros++ {
			for _, there := range times {
				for _, back := range times {
					for name := range makers() {
						spans := tell(t, made(t, name, stages, micros), micros, all(stages, there), all(stages, back))
						mustLong(t, sized(name, stages, micros), spans, (micros+stages-1)*(there+back))
						mustIdle(t, sized(name, stages, micros), spans, all(stages, (stages-1)*(there+back))...)
					}
				}
			}
		}
	}
}

// TestC3DearestStage: no plan is shorter than the dearest stage needs for all
// parts, and none idles less than 0.
func TestC3DearestStage(t *testing.T) {
	r := rand.New(rand.NewSource(3))
	for range 3000 {
		stages, micros := 1+r.Intn(api.MaxStages), 1+r.Intn(api.MaxMicros)
		there, back := someTimes(r, stages, api.MaxCost), someTimes(r, stages, api.MaxCost)
		spans := tell(t, somePlan(r, stages, micros), micros, there, back)
		long, idle := Long(spans), Idle(spans)
		for stage := range stages {
			needs := micros * (there[stage] + back[stage])
			if long < needs || idle[stage] != long-needs {
				t.Errorf("%d long, stage %d needs %d and is idle %d", long, stage, needs, idle[stage])
			}
		}
	}
	// It may be as short as that: where one stage alone takes long.
	for dear := range 3 {
		there, back := all(3, 1), all(3, 1)
		there[dear], back[dear] = 1000, 1000
		spans := tell(t, made(t, "Turns", 3, 12), 12, there, back)
		if long := Long(spans); long < 24000 || long > 24000+4 {
			t.Errorf("turns with stage %d of 1000 are %d long", dear, long)
		}
	}
}

// TestRuleP1EveryCallEnds: whatever is handed in, something is told, and it is
// what the plan, how many numbers there are, and the numbers are, in this order.
func TestRuleP1EveryCallEnds(t *testing.T) {
	r := rand.New(rand.NewSource(9))
	some := []int{math.MinInt, -1, 0, 1, 2, 3, 12, 13, api.MaxCost, api.MaxCost + 1, math.MaxInt}
	tolds := map[api.Errno]int{}
	for range 40000 {
		stages, micros := r.Intn(4), r.Intn(3)
		var acts [][]api.Act
		for range stages {
			if r.Intn(20) == 0 {
				acts = append(acts, []api.Act{{Kind: some[r.Intn(len(some))], Micro: some[r.Intn(len(some))]}})
				continue
			}
			line := actsOf(micros)
			if r.Intn(2) == 0 {
				r.Shuffle(len(line), func(i, j int) { line[i], line[j] = line[j], line[i] })
			}
			acts = append(acts, line)
		}
		numbers := func() []int {
			times := someTimes(r, max(0, stages-r.Intn(9)/8), 9)
			if len(times) > 0 && r.Intn(4) == 0 {
				times[r.Intn(len(times))] = some[r.Intn(len(some))]
			}
			return times
		}
		there, back := numbers(), numbers()
		told := toldOfTimes(acts, micros, there, back)
		tolds[told]++
		if told != api.OK {
			refuseTimes(t, "anything", acts, micros, there, back, told)
			continue
		}
		mustBeTight(t, "anything", acts, there, back, tell(t, acts, micros, there, back))
	}
	for _, told := range []api.Errno{api.OK, api.ErrRange, api.ErrShape, api.ErrOrder, api.ErrStuck} {
		if tolds[told] == 0 {
			t.Errorf("%v was never told: %v", told, tolds)
		}
	}
}

// toldOfTimes is what the chapter says of all that Times is handed, in its order.
func toldOfTimes(acts [][]api.Act, micros int, there, back []int) api.Errno {
	if told := plain.Told(plan.Check(acts, micros)); told != api.OK {
		return told
	}
	if len(there) != len(acts) || len(back) != len(acts) {
		return api.ErrShape
	}
	for _, times := range [][]int{there, back} {
		for _, x := range times {
			if x < 1 || x > 1000000 {
				return api.ErrRange
			}
		}
	}
	return api.OK
}

// TestByMinutes holds the tests' own reckoning against one done by hand.
func TestByMinutes(t *testing.T) {
	got := byMinutes(of("F0 B0", "F0 B0"), []int{1, 2}, []int{3, 4})
	if want := at("0-1 7-10", "1-3 3-7"); !reflect.DeepEqual(got, want) {
		t.Errorf("by minutes it is %v, want %v", got, want)
	}
}
