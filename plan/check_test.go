package plan

import (
	"math"
	"math/rand"
	"slices"
	"testing"

	"galley/api"
)

func TestP2CheckOfStages(t *testing.T) {
	mustCheck(t, "nil", nil, 1, api.ErrRange)
	mustCheck(t, "no stages", [][]api.Act{}, 1, api.ErrRange)
	for stages := 1; stages <= api.MaxStages; stages++ {
		for micros := 1; micros <= api.MaxMicros; micros++ {
			mustCheck(t, "lockstep", times(stages, lockstep(micros)), micros, api.OK)
		}
	}
	for _, stages := range []int{7, 8, 12, 1000, 100000} {
		mustCheck(t, "MaxStages and more", times(stages, lockstep(1)), 1, api.ErrRange)
	}
}

func TestP2CheckOfMicros(t *testing.T) {
	for micros := 1; micros <= api.MaxMicros; micros++ {
		mustCheck(t, "one stage", times(1, lockstep(micros)), micros, api.OK)
		mustCheck(t, "no stages", nil, micros, api.ErrRange)
	}
	for _, micros := range []int{13, 14, 24} {
		mustCheck(t, "MaxMicros and more", times(1, lockstep(micros)), micros, api.ErrRange)
		mustCheck(t, "MaxMicros and more, MaxStages", times(6, lockstep(micros)), micros, api.ErrRange)
	}
	for _, micros := range []int{math.MinInt, -12, -1, 0, math.MaxInt, math.MaxInt/2 + 1} {
		mustCheck(t, "no such number, one part", of("F0 B0"), micros, api.ErrRange)
		mustCheck(t, "no such number, no acts", of("", ""), micros, api.ErrRange)
		mustCheck(t, "no such number, no stages", nil, micros, api.ErrRange)
	}
}

func TestP2CheckOfActs(t *testing.T) {
	for _, c := range []struct {
		name   string
		plan   [][]api.Act
		micros int
		told   api.Errno
	}{
		{"a part", of("F0 B0"), 1, api.OK},
		{"the last part", of("F0 F1 F2 B2 B1 B0"), 3, api.OK},
		{"a Kind below", of("Z0 B0"), 1, api.ErrRange},
		{"a Kind above", of("F0 X0"), 1, api.ErrRange},
		{"a Kind besides", of("F0 B0 X0"), 1, api.ErrRange},
		{"a Kind far below", [][]api.Act{{{Kind: math.MinInt}, backward(0)}}, 1, api.ErrRange},
		{"a Kind far above", [][]api.Act{{forward(0), {Kind: math.MaxInt}}}, 1, api.ErrRange},
		{"a Kind that is the other one below 0", [][]api.Act{{{Kind: -1}, {Kind: -2}}}, 1, api.ErrRange},
		{"a part below 0", of("F-1 B0"), 1, api.ErrRange},
		{"a part below 0, back", of("F0 B-1"), 1, api.ErrRange},
		{"one part more", of("F1 B1"), 1, api.ErrRange},
		{"one part more, back", of("F0 B1"), 1, api.ErrRange},
		{"one part more besides", of("F0 B0 F1 B1"), 1, api.ErrRange},
		{"parts from 1 on", of("F1 F2 B1 B2"), 2, api.ErrRange},
		{"a part far below 0", [][]api.Act{{forward(math.MinInt), backward(0)}}, 1, api.ErrRange},
		{"a part far beyond", [][]api.Act{{forward(0), backward(math.MaxInt)}}, 1, api.ErrRange},
		{"a Forward twice", of("F0 F0"), 1, api.ErrTwice},
		{"a Forward twice, all there", of("F0 B0 F0"), 1, api.ErrTwice},
		{"a Backward twice", of("F0 B0 B0"), 1, api.ErrTwice},
		{"a Backward twice, far apart", of("F0 B0 F1 B1 B0"), 2, api.ErrTwice},
		{"all twice", of("F0 B0 F0 B0"), 1, api.ErrTwice},
		{"as many as there are to be, one twice", of("F0 F1 B0 F0"), 2, api.ErrTwice},
		{"no acts", of(""), 1, api.ErrShape},
		{"no acts, many parts", of(""), 12, api.ErrShape},
		{"no Forward", of("B0"), 1, api.ErrShape},
		{"no Backward", of("F0"), 1, api.ErrShape},
		{"no Backward of the last part", of("F0 B0 F1"), 2, api.ErrShape},
		{"no Forward of the last part", of("F0 B0 B1"), 2, api.ErrShape},
		{"nothing of the first part", of("F1 B1"), 2, api.ErrShape},
		{"nothing of the last part", of("F0 B0"), 2, api.ErrShape},
		{"Forwards only", of("F0 F1 F2"), 3, api.ErrShape},
		{"Backwards only", of("B0 B1 B2"), 3, api.ErrShape},
		{"the wrong way round", of("B0 F0"), 1, api.ErrOrder},
		{"the last part the wrong way round", of("F0 B0 B1 F1"), 2, api.ErrOrder},
		{"the first part the wrong way round", of("F1 B0 F0 B1"), 2, api.ErrOrder},
		{"far apart", of("B0 F1 F2 B1 B2 F0"), 3, api.ErrOrder},
	} {
		mustCheck(t, c.name, c.plan, c.micros, c.told)
		mustCheckSlowly(t, c.name, c.plan, c.micros)
	}
}

// TestP2CheckOfEachAct has one thing wrong at each place of great plans.
func TestP2CheckOfEachAct(t *testing.T) {
	stages, micros := api.MaxStages, api.MaxMicros
	for stage := range stages {
		for at := range 2 * micros {
			change := func(name string, told api.Errno, how func(acts []api.Act) []api.Act) {
				plan := times(stages, lockstep(micros))
				plan[stage] = how(plan[stage])
				mustCheck(t, name, plan, micros, told)
			}
			put := func(act api.Act) func(acts []api.Act) []api.Act {
				return func(acts []api.Act) []api.Act {
					acts[at] = act
					return acts
				}
			}
			change("a Kind below", api.ErrRange, put(api.Act{Kind: 0, Micro: at / 2}))
			change("a Kind above", api.ErrRange, put(api.Act{Kind: 3, Micro: at / 2}))
			change("a part below", api.ErrRange, put(api.Act{Kind: 1 + at%2, Micro: -1}))
			change("a part above", api.ErrRange, put(api.Act{Kind: 1 + at%2, Micro: micros}))
			change("another Kind", api.ErrTwice, put(api.Act{Kind: 2 - at%2, Micro: at / 2}))
			change("another part", api.ErrTwice, put(api.Act{Kind: 1 + at%2, Micro: (at/2 + 5) % micros}))
			change("missing", api.ErrShape, func(acts []api.Act) []api.Act { return slices.Delete(acts, at, at+1) })
			change("all behind missing", api.ErrShape, func(acts []api.Act) []api.Act { return acts[:at] })
			change("besides", api.ErrTwice, func(acts []api.Act) []api.Act { return append(acts, acts[at]) })
		}
		for part := range micros {
			plan := times(stages, lockstep(micros))
			acts := plan[stage]
			acts[2*part], acts[2*part+1] = acts[2*part+1], acts[2*part]
			mustCheck(t, "the wrong way round", plan, micros, api.ErrOrder)
		}
	}
}

func TestP2ActsOfOneStageOnly(t *testing.T) {
	for stages := 2; stages <= api.MaxStages; stages++ {
		for stage := range stages {
			plan := make([][]api.Act, stages)
			mustCheck(t, "no acts at all", plan, 1, api.ErrShape)
			mustCheck(t, "no acts at all", plan, 12, api.ErrShape)
			plan[stage] = lockstep(2)
			mustCheck(t, "one stage only", plan, 2, api.ErrShape)
			plan = times(stages, lockstep(2))
			plan[stage] = nil
			mustCheck(t, "all but one stage", plan, 2, api.ErrShape)
		}
	}
}

func TestP2WhatIsToldFirstOfAStage(t *testing.T) {
	mustCheck(t, "stages and all else", times(7, of("Z0 F0 F0 B9")[0]), 2, api.ErrRange)
	mustCheck(t, "micros and all else", of("F0 F0 B1"), 0, api.ErrRange)
	mustCheck(t, "a Kind, ahead of twice", of("X0 F0 F0"), 1, api.ErrRange)
	mustCheck(t, "a Kind, behind twice", of("F0 F0 X0"), 1, api.ErrRange)
	mustCheck(t, "a part, behind twice", of("F0 B0 B0 F1"), 1, api.ErrRange)
	mustCheck(t, "no Kind, twice", of("Z0 Z0"), 1, api.ErrRange)
	mustCheck(t, "no part, twice", of("F1 F1"), 1, api.ErrRange)
	mustCheck(t, "a Kind, and missing", of("X0"), 1, api.ErrRange)
	mustCheck(t, "a part, and order", of("B0 F0 F1"), 1, api.ErrRange)
	mustCheck(t, "twice, and missing", of("F0 F0"), 1, api.ErrTwice)
	mustCheck(t, "twice at last, and missing", of("F0 F1 F2 F2"), 3, api.ErrTwice)
	mustCheck(t, "twice, and order", of("B0 F0 F0"), 1, api.ErrTwice)
	mustCheck(t, "twice back, and order", of("B0 F0 B0"), 1, api.ErrTwice)
	mustCheck(t, "missing, and order", of("B0 F0 F1"), 2, api.ErrShape)
	mustCheck(t, "missing alone, and order", of("B0"), 1, api.ErrShape)
	mustCheck(t, "all of it", of("B0 F0 F0 X0"), 2, api.ErrRange)
}

func TestP2WhatIsToldFirstOfStages(t *testing.T) {
	wrong := []struct {
		acts string
		told api.Errno
	}{
		{"F0 B0 X1", api.ErrRange},
		{"F0 B0 F2", api.ErrRange},
		{"F0 B0 B0", api.ErrTwice},
		{"F0 B0", api.ErrShape},
		{"", api.ErrShape},
		{"B0 F0 F1 B1", api.ErrOrder},
	}
	for _, a := range wrong {
		for _, b := range wrong {
			mustCheck(t, "two stages", of(a.acts, b.acts), 2, a.told)
			mustCheck(t, "behind a right one", of("F0 B0 F1 B1", a.acts, b.acts), 2, a.told)
			mustCheck(t, "ahead of a right one", of(a.acts, "F0 B0 F1 B1", b.acts), 2, a.told)
		}
		mustCheck(t, "behind such that wait", of("F0 B0 F1 B1", "F1 B1 F0 B0", a.acts), 2, a.told)
		mustCheck(t, "ahead of such that wait", of(a.acts, "F0 B0 F1 B1", "F1 B1 F0 B0"), 2, a.told)
		mustCheck(t, "between such that wait", of("F0 B0 F1 B1", a.acts, "F1 B1 F0 B0"), 2, a.told)
	}
}

func TestP1WhoWaits(t *testing.T) {
	for _, c := range []struct {
		name   string
		plan   [][]api.Act
		micros int
		told   api.Errno
	}{
		{"lockstep", of("F0 B0 F1 B1", "F0 B0 F1 B1"), 2, api.OK},
		{"other parts first", of("F0 B0 F1 B1", "F1 B1 F0 B0"), 2, api.ErrStuck},
		{"the stage behind goes too far ahead", of("F0 B0 F1 B1", "F0 F1 B0 B1"), 2, api.ErrStuck},
		{"the stage ahead goes ahead", of("F0 F1 B0 B1", "F0 B0 F1 B1"), 2, api.OK},
		{"forward in another order", of("F0 F1 B0 B1", "F1 F0 B0 B1"), 2, api.OK},
		{"forward and back in another order", of("F0 F1 B0 B1", "F1 B1 F0 B0"), 2, api.OK},
		{"back first of what goes forward last", of("F0 F1 B1 B0", "F0 B0 F1 B1"), 2, api.OK},
		{"back first of what is not yet forward", of("F0 B0 F1 B1", "F1 F0 B0 B1"), 2, api.ErrStuck},
		{"between, too far ahead", of("F0 F1 F2 B0 B1 B2", "F0 B0 F1 B1 F2 B2", "F0 F1 B0 B1 F2 B2"), 3, api.ErrStuck},
		{"between, just far enough", of("F0 F1 F2 B0 B1 B2", "F0 F1 B0 B1 F2 B2", "F0 F1 B0 B1 F2 B2"), 3, api.OK},
		{"the first waits for the last", of("F0 B0 F1 B1", "F0 F1 B0 B1", "F0 B0 F1 B1"), 2, api.ErrStuck},
		{"the last part alone waits", of("F0 B0 F1 B1 F2 B2", "F0 B0 F1 F2 B1 B2"), 3, api.ErrStuck},
		{"one stage, whatever the order", of("F2 F0 B0 F1 B2 B1"), 3, api.OK},
	} {
		mustCheck(t, c.name, c.plan, c.micros, c.told)
		mustCheckSlowly(t, c.name, c.plan, c.micros)
	}
}

// TestP1JustFarEnough: of stages that go so many parts ahead, each must go at
// least as far as the one behind it; one part less at one stage, and all wait.
func TestP1JustFarEnough(t *testing.T) {
	for stages := 2; stages <= api.MaxStages; stages++ {
		for micros := 2; micros <= api.MaxMicros; micros++ {
			for by := 1; by < micros; by++ {
				plan := times(stages, aheadBy(by, micros))
				mustCheck(t, "just far enough", plan, micros, api.OK)
				for stage := range stages - 1 {
					less := copyOf(plan)
					less[stage] = aheadBy(by-1, micros)
					mustCheck(t, "one part less", less, micros, api.ErrStuck)
				}
				plan[stages-1] = aheadBy(by-1, micros)
				mustCheck(t, "one part less at last", plan, micros, api.OK)
			}
		}
	}
}

// TestP1AllOrders asks all orders of few acts, at few stages.
func TestP1AllOrders(t *testing.T) {
	two := orders(append(parts(api.Forward, 2), parts(api.Backward, 2)...))
	for stages := 1; stages <= 3; stages++ {
		for _, plan := range plansOf(stages, two) {
			mustCheckSlowly(t, "two parts", plan, 2)
		}
	}
	for _, plan := range plansOf(4, rightOrders(2)) {
		mustCheckSlowly(t, "two parts, four stages", plan, 2)
	}
	for _, plan := range plansOf(2, rightOrders(3)) {
		mustCheckSlowly(t, "three parts", plan, 3)
	}
}

// TestP2AllLists asks all short lists of acts that are right and wrong.
func TestP2AllLists(t *testing.T) {
	acts := of("Z0 F-1 F0 F1 F2 B0 B1 B2 X1")[0]
	var lists [][]api.Act
	var ask func(list []api.Act, most int)
	ask = func(list []api.Act, most int) {
		lists = append(lists, list)
		if len(list) == most {
			return
		}
		for _, act := range acts {
			ask(append(slices.Clone(list), act), most)
		}
	}
	ask(nil, 4)
	for _, list := range lists {
		for micros := 0; micros <= 3; micros++ {
			mustCheckSlowly(t, "one stage", [][]api.Act{list}, micros)
		}
	}
	lists = nil
	ask(nil, 2)
	for _, plan := range plansOf(2, lists) {
		mustCheckSlowly(t, "two stages", plan, 1)
		mustCheckSlowly(t, "two stages", plan, 2)
	}
}

// TestP2Some begins with plans that can be done, and changes a little, so that
// some only just can be done, and others only just can't.
func TestP2Some(t *testing.T) {
	r := rand.New(rand.NewSource(1))
	seen := map[api.Errno]int{}
	for range 4000 {
		stages, micros := 1+r.Intn(api.MaxStages), 1+r.Intn(api.MaxMicros)
		plan := made(t, []string{"Wave", "Turns"}[r.Intn(2)], stages, micros)
		for range r.Intn(4) {
			acts := plan[r.Intn(stages)]
			at := r.Intn(len(acts) - 1)
			acts[at], acts[at+1] = acts[at+1], acts[at]
		}
		if r.Intn(4) == 0 {
			plan[r.Intn(stages)] = shuffled(r, micros)
		}
		if r.Intn(4) == 0 {
			spoil(r, plan[r.Intn(stages)], micros)
		}
		told := toldOfCheck(plan, micros)
		seen[told]++
		mustCheck(t, "some", plan, micros, told)
	}
	for _, told := range []api.Errno{api.OK, api.ErrRange, api.ErrTwice, api.ErrOrder, api.ErrStuck} {
		if seen[told] < 50 {
			t.Errorf("only %d of all plans are %v", seen[told], told)
		}
	}
}

// spoil puts one act that may be wrong, or there already, into some place.
func spoil(r *rand.Rand, acts []api.Act, micros int) {
	acts[r.Intn(len(acts))] = api.Act{Kind: r.Intn(4), Micro: r.Intn(micros+2) - 1}
}

// TestRuleP1FarTooMuch: what is far too much is told, and calls end.
func TestRuleP1FarTooMuch(t *testing.T) {
	many := slices.Repeat(lockstep(12), 100000)
	mustCheck(t, "far too many acts", [][]api.Act{many}, 12, api.ErrTwice)
	mustCheck(t, "far too many acts, at last", append(times(5, lockstep(12)), many), 12, api.ErrTwice)
	many[len(many)-1].Kind = 3
	mustCheck(t, "far too many acts, the last one wrong", [][]api.Act{many}, 12, api.ErrRange)
	mustCheck(t, "far too many acts, few parts", [][]api.Act{many}, 1, api.ErrRange)
	mustCheck(t, "far too many stages", make([][]api.Act, 1000000), 12, api.ErrRange)
}
