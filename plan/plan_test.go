package plan

import (
	"math"
	"math/rand"
	"testing"

	"galley/api"
)

func TestP3Wave(t *testing.T) {
	mustMake(t, "Wave", 1, 1, of("F0 B0"))
	mustMake(t, "Wave", 1, 2, of("F0 F1 B0 B1"))
	mustMake(t, "Wave", 2, 1, of("F0 B0", "F0 B0"))
	mustMake(t, "Wave", 3, 2, of("F0 F1 B0 B1", "F0 F1 B0 B1", "F0 F1 B0 B1"))
	for stages := 1; stages <= api.MaxStages; stages++ {
		for micros := 1; micros <= api.MaxMicros; micros++ {
			acts := append(parts(api.Forward, micros), parts(api.Backward, micros)...)
			mustMake(t, "Wave", stages, micros, times(stages, acts))
		}
	}
}

func TestP3Turns(t *testing.T) {
	mustMake(t, "Turns", 1, 1, of("F0 B0"))
	mustMake(t, "Turns", 1, 3, of("F0 B0 F1 B1 F2 B2"))
	mustMake(t, "Turns", 2, 2, of("F0 F1 B0 B1", "F0 B0 F1 B1"))
	mustMake(t, "Turns", 2, 3, of("F0 F1 B0 F2 B1 B2", "F0 B0 F1 B1 F2 B2"))
	mustMake(t, "Turns", 3, 3, of("F0 F1 F2 B0 B1 B2", "F0 F1 B0 F2 B1 B2", "F0 B0 F1 B1 F2 B2"))
	mustMake(t, "Turns", 3, 5, of(
		"F0 F1 F2 B0 F3 B1 F4 B2 B3 B4",
		"F0 F1 B0 F2 B1 F3 B2 F4 B3 B4",
		"F0 B0 F1 B1 F2 B2 F3 B3 F4 B4"))
	mustMake(t, "Turns", 4, 2, of("F0 F1 B0 B1", "F0 F1 B0 B1", "F0 F1 B0 B1", "F0 B0 F1 B1"))
	mustMake(t, "Turns", 6, 1, times(6, lockstep(1)))
	mustMake(t, "Turns", 1, 12, times(1, lockstep(12)))
}

func TestP3TurnsOfAll(t *testing.T) {
	for stages := 1; stages <= api.MaxStages; stages++ {
		for micros := 1; micros <= api.MaxMicros; micros++ {
			var plan [][]api.Act
			for stage := range stages {
				plan = append(plan, aheadBy(stages-1-stage, micros))
			}
			mustMake(t, "Turns", stages, micros, plan)
		}
	}
}

func TestP3WrongNumbers(t *testing.T) {
	wrongStages := []int{math.MinInt, -6, -1, 0, 7, 8, 12, math.MaxInt}
	wrongMicros := []int{math.MinInt, -12, -1, 0, 13, 14, 24, math.MaxInt, math.MaxInt/2 + 1}
	for _, stages := range wrongStages {
		for micros := 1; micros <= api.MaxMicros; micros++ {
			mustRefuse(t, stages, micros)
		}
		for _, micros := range wrongMicros {
			mustRefuse(t, stages, micros)
		}
	}
	for _, micros := range wrongMicros {
		for stages := 1; stages <= api.MaxStages; stages++ {
			mustRefuse(t, stages, micros)
		}
	}
}

func TestP3Even(t *testing.T) {
	for _, c := range []struct {
		name   string
		plan   [][]api.Act
		micros int
		want   bool
	}{
		{"one part", of("F0 B0"), 1, true},
		{"one part, more stages", of("F0 B0", "F0 B0", "F0 B0"), 1, true},
		{"in order", of("F0 F1 B0 B1"), 2, true},
		{"the other way round", of("F0 F1 B1 B0"), 2, false},
		{"forward the other way round", of("F1 F0 B0 B1"), 2, true},
		{"there and back the other way round", of("F1 B1 F0 B0"), 2, false},
		{"the last two", of("F0 F1 F2 B0 B2 B1"), 3, false},
		{"the first two", of("F0 F1 F2 B1 B0 B2"), 3, false},
		{"from the last one on, round", of("F0 F1 F2 B2 B0 B1"), 3, false},
		{"the second one first, round", of("F0 F1 F2 B1 B2 B0"), 3, false},
		{"all stages the same other way", of("F0 F1 B1 B0", "F0 F1 B1 B0"), 2, false},
		{"the first stage alone", of("F0 F1 B1 B0", "F0 B0 F1 B1"), 2, false},
		{"the last stage alone", of("F0 F1 B0 B1", "F1 B1 F0 B0"), 2, false},
		{"forward the other way round at one stage", of("F0 F1 B0 B1", "F1 F0 B0 B1"), 2, true},
	} {
		mustEven(t, c.name, c.plan, c.micros, c.want)
	}
}

// TestP3EvenAtOneStageOnly: all waves go back part by part, but for two parts at one stage.
func TestP3EvenAtOneStageOnly(t *testing.T) {
	for stages := 1; stages <= api.MaxStages; stages++ {
		for micros := 2; micros <= api.MaxMicros; micros++ {
			for stage := range stages {
				for part := range micros - 1 {
					plan := made(t, "Wave", stages, micros)
					acts := plan[stage]
					at := micros + part
					acts[at], acts[at+1] = acts[at+1], acts[at]
					mustCheck(t, sized(stages, micros), plan, micros, api.OK)
					mustEven(t, sized(stages, micros), plan, micros, false)
				}
			}
		}
	}
}

// TestP3EvenSaysCheckFirst: also where all Backwards are in order, or none is.
func TestP3EvenSaysCheckFirst(t *testing.T) {
	for _, c := range []struct {
		name   string
		plan   [][]api.Act
		micros int
		told   api.Errno
	}{
		{"stuck, in order", of("F0 B0 F1 B1", "F0 F1 B0 B1"), 2, api.ErrStuck},
		{"stuck, not in order", of("F0 B0 F1 B1", "F1 B1 F0 B0"), 2, api.ErrStuck},
		{"order", of("B0 F0"), 1, api.ErrOrder},
		{"no Forward", of("B0 B1"), 2, api.ErrShape},
		{"no acts", of("", ""), 1, api.ErrShape},
		{"twice, not in order", of("F0 F1 B1 B0 B0"), 2, api.ErrTwice},
		{"not in order, and wrong behind", of("F0 F1 B1 B0", "F0 X1"), 2, api.ErrRange},
		{"no stages", nil, 1, api.ErrRange},
		{"no parts", of("F0 B0"), 0, api.ErrRange},
	} {
		got, err := Even(c.plan, c.micros)
		if got || err == nil {
			t.Errorf("%s: Even(%v, %d) = %v, %v", c.name, c.plan, c.micros, got, err)
		}
		mustCheck(t, c.name, c.plan, c.micros, c.told)
	}
}

func TestP3EvenOfAllOrders(t *testing.T) {
	ask := func(stages, micros int) {
		for _, plan := range plansOf(stages, rightOrders(micros)) {
			if toldOfCheck(plan, micros) == api.OK {
				mustEven(t, "all orders", plan, micros, isEven(plan, micros))
			}
		}
	}
	ask(1, 3)
	ask(2, 2)
	ask(3, 2)
	ask(2, 3)
}

func TestP3EvenOfSome(t *testing.T) {
	r := rand.New(rand.NewSource(2))
	for range 2000 {
		micros := 1 + r.Intn(api.MaxMicros)
		plan := [][]api.Act{shuffled(r, micros)}
		mustEven(t, "some", plan, micros, isEven(plan, micros))
	}
}

// TestP4AllCanBeDone: Wave and Turns are plans, can be done, and are Even; they
// are so by what Check and Even tell, and by the tests' own reckoning.
func TestP4AllCanBeDone(t *testing.T) {
	for name := range makers() {
		for stages := 1; stages <= api.MaxStages; stages++ {
			for micros := 1; micros <= api.MaxMicros; micros++ {
				plan := made(t, name, stages, micros)
				mustCheck(t, name, plan, micros, api.OK)
				mustCheckSlowly(t, name, plan, micros)
				mustEven(t, name, plan, micros, true)
				if !isEven(plan, micros) {
					t.Errorf("%s(%d, %d) = %v is not even", name, stages, micros, plan)
				}
				mustCheck(t, name+", one part less", plan, micros-1, api.ErrRange)
				mustCheckSlowly(t, name+", one part more", plan, micros+1)
			}
		}
	}
}
