package clock

import (
	"fmt"
	"math/rand"
	"reflect"
	"slices"
	"strconv"
	"strings"
	"testing"

	"galley/api"
	"galley/plain"
	"galley/plan"
)

// of reads a plan, a text for each stage: F and B are Forward and Backward, Z
// and X the Kinds that are none, below and above.
func of(stages ...string) [][]api.Act {
	var acts [][]api.Act
	for _, text := range stages {
		var line []api.Act
		for _, word := range strings.Fields(text) {
			part, err := strconv.Atoi(word[1:])
			if err != nil {
				panic(err)
			}
			line = append(line, api.Act{Kind: strings.Index("ZFBX", word[:1]), Micro: part})
		}
		acts = append(acts, line)
	}
	return acts
}

// at reads spans, a text for each stage: "0-3 5-9"; below 0 is "~3-~1".
func at(stages ...string) [][]api.Span {
	number := func(text string) int {
		x, err := strconv.Atoi(strings.Replace(text, "~", "-", 1))
		if err != nil {
			panic(err)
		}
		return x
	}
	var spans [][]api.Span
	for _, text := range stages {
		var line []api.Span
		for _, word := range strings.Fields(text) {
			from, to, _ := strings.Cut(word, "-")
			line = append(line, api.Span{From: number(from), To: number(to)})
		}
		spans = append(spans, line)
	}
	return spans
}

// all has the same number for each stage.
func all(stages, x int) []int { return slices.Repeat([]int{x}, stages) }

// orders has all orders of some acts.
func orders(acts []api.Act) [][]api.Act {
	if len(acts) == 0 {
		return [][]api.Act{nil}
	}
	var found [][]api.Act
	for i, first := range acts {
		rest := slices.Delete(slices.Clone(acts), i, i+1)
		for _, order := range orders(rest) {
			found = append(found, append([]api.Act{first}, order...))
		}
	}
	return found
}

// actsOf has all acts of so many parts, all forward first.
func actsOf(micros int) []api.Act {
	var found []api.Act
	for _, kind := range []int{api.Forward, api.Backward} {
		for part := range micros {
			found = append(found, api.Act{Kind: kind, Micro: part})
		}
	}
	return found
}

// plansOf has all plans of so many stages and parts that can be done.
func plansOf(stages, micros int) [][][]api.Act {
	choices := slices.DeleteFunc(orders(actsOf(micros)), func(acts []api.Act) bool {
		return plan.Check([][]api.Act{acts}, micros) != nil
	})
	found := [][][]api.Act{nil}
	for range stages {
		var longer [][][]api.Act
		for _, ahead := range found {
			for _, acts := range choices {
				longer = append(longer, append(slices.Clone(ahead), acts))
			}
		}
		found = longer
	}
	return slices.DeleteFunc(found, func(one [][]api.Act) bool { return plan.Check(one, micros) != nil })
}

// somePlan has acts put down in an order in which they can be done, so each
// stage has its own order, and the plan can be done.
func somePlan(r *rand.Rand, stages, micros int) [][]api.Act {
	made := make([][]api.Act, stages)
	steps := make([]int, micros) // how far each part is on its way there and back
	for range 2 * stages * micros {
		part := r.Intn(micros)
		for steps[part] == 2*stages {
			part = (part + 1) % micros
		}
		if stage := steps[part]; stage < stages {
			made[stage] = append(made[stage], api.Act{Kind: api.Forward, Micro: part})
		} else {
			stage = 2*stages - 1 - stage
			made[stage] = append(made[stage], api.Act{Kind: api.Backward, Micro: part})
		}
		steps[part]++
	}
	return made
}

// someTimes has numbers for each stage, from 1 to most.
func someTimes(r *rand.Rand, stages, most int) []int {
	var times []int
	for range stages {
		times = append(times, 1+r.Intn(most))
	}
	return times
}

// needs is what the chapter of plans says that an act waits for in other stages.
func needs(stage, stages int, act api.Act) (other int, waits bool) {
	if act.Kind == api.Forward {
		return stage - 1, stage > 0
	}
	return stage + 1, stage < stages-1
}

// byMinutes lets time go on by 1: whoever does nothing begins what it can. No
// end is looked for ahead of its time.
func byMinutes(acts [][]api.Act, there, back []int) [][]api.Span {
	spans := make([][]api.Span, len(acts))
	hasEnded := func(stage int, act api.Act, now int) bool {
		i := slices.Index(acts[stage], act)
		return i < len(spans[stage]) && spans[stage][i].To <= now
	}
	for now, left := 0, len(acts)*len(acts[0]); left > 0; now++ {
		for stage, line := range acts {
			done := len(spans[stage])
			if done == len(line) || done > 0 && spans[stage][done-1].To > now {
				continue
			}
			act := line[done]
			if other, waits := needs(stage, len(acts), act); waits && !hasEnded(other, act, now) {
				continue
			}
			long := there[stage]
			if act.Kind == api.Backward {
				if !hasEnded(stage, api.Act{Kind: api.Forward, Micro: act.Micro}, now) {
					continue
				}
				long = back[stage]
			}
			spans[stage] = append(spans[stage], api.Span{From: now, To: now + long})
			left--
		}
	}
	return spans
}

// tell asks Times of what is right.
func tell(t *testing.T, acts [][]api.Act, micros int, there, back []int) [][]api.Span {
	t.Helper()
	spans, err := Times(acts, micros, there, back)
	if err != nil {
		t.Fatalf("Times(%v, %d, %v, %v): %v", acts, micros, there, back, err)
	}
	return spans
}

func mustTimes(t *testing.T, acts [][]api.Act, micros int, there, back []int, want [][]api.Span) {
	t.Helper()
	if got := tell(t, acts, micros, there, back); !reflect.DeepEqual(got, want) {
		t.Errorf("Times(%v, %d, %v, %v) = %v, want %v", acts, micros, there, back, got, want)
	}
}

func refuseTimes(t *testing.T, name string, acts [][]api.Act, micros int, there, back []int, told api.Errno) {
	t.Helper()
	spans, err := Times(acts, micros, there, back)
	if len(spans) != 0 || plain.Told(err) != told {
		t.Errorf("%s: Times(%v, %d, %v, %v) = %v, %v, want nothing and %v", name, acts, micros, there, back, spans, err, told)
	}
}

// mustBeTight holds that each act takes what its stage's acts take, begins ahead
// of nothing that it waits for, and not later than it could.
func mustBeTight(t *testing.T, name string, acts [][]api.Act, there, back []int, spans [][]api.Span) {
	t.Helper()
	if len(spans) != len(acts) {
		t.Fatalf("%s: %d stages have times, want %d", name, len(spans), len(acts))
	}
	for stage, line := range acts {
		if len(spans[stage]) != len(line) {
			t.Fatalf("%s: stage %d has %d times, want %d", name, stage, len(spans[stage]), len(line))
		}
		for i, act := range line {
			from := 0
			if i > 0 {
				from = spans[stage][i-1].To
			}
			if other, waits := needs(stage, len(acts), act); waits {
				from = max(from, spans[other][slices.Index(acts[other], act)].To)
			}
			want := api.Span{From: from, To: from + []int{0, there[stage], back[stage]}[act.Kind]}
			if spans[stage][i] != want {
				t.Errorf("%s: stage %d, act %d (%v) is at %v, want %v", name, stage, i, act, spans[stage][i], want)
			}
		}
	}
}

type maker func(stages, micros int) ([][]api.Act, error)

// makers are those of package plan, by their names.
func makers() map[string]maker { return map[string]maker{"Wave": plan.Wave, "Turns": plan.Turns} }

func made(t *testing.T, name string, stages, micros int) [][]api.Act {
	t.Helper()
	acts, err := makers()[name](stages, micros)
	if err != nil {
		t.Fatalf("%s(%d, %d): %v", name, stages, micros, err)
	}
	return acts
}

func sized(name string, stages, micros int) string {
	return fmt.Sprint(name, " of ", stages, " stages, ", micros, " parts")
}

func mustLong(t *testing.T, name string, spans [][]api.Span, want int) {
	t.Helper()
	if got := Long(spans); got != want {
		t.Errorf("%s: Long(%v) = %d, want %d", name, spans, got, want)
	}
}

func mustIdle(t *testing.T, name string, spans [][]api.Span, want ...int) {
	t.Helper()
	if got := Idle(spans); !slices.Equal(got, want) {
		t.Errorf("%s: Idle(%v) = %v, want %v", name, spans, got, want)
	}
}
