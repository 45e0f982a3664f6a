package plan

import (
	"fmt"
	"math/rand"
	"reflect"
	"slices"
	"strconv"
	"strings"
	"testing"

	"galley/api"
	"galley/plain"
)

// of reads a plan, a text for each stage: F and B are Forward and Backward, Z
// and X the Kinds that are none, below and above.
func of(stages ...string) [][]api.Act {
	var plan [][]api.Act
	for _, text := range stages {
		var acts []api.Act
		for _, word := range strings.Fields(text) {
			part, err := strconv.Atoi(word[1:])
			if err != nil {
				panic(err)
			}
			acts = append(acts, api.Act{Kind: strings.Index("ZFBX", word[:1]), Micro: part})
		}
		plan = append(plan, acts)
	}
	return plan
}

// times has the same stage so often, each with memory of its own.
func times(count int, acts []api.Act) [][]api.Act {
	var plan [][]api.Act
	for range count {
		plan = append(plan, slices.Clone(acts))
	}
	return plan
}

func copyOf(plan [][]api.Act) [][]api.Act {
	var copied [][]api.Act
	for _, acts := range plan {
		copied = append(copied, slices.Clone(acts))
	}
	return copied
}

// parts has the acts of one Kind, part by part.
func parts(kind, micros int) []api.Act {
	var acts []api.Act
	for part := range micros {
		acts = append(acts, api.Act{Kind: kind, Micro: part})
	}
	return acts
}

// lockstep goes back with each part ahead of going on with the next.
func lockstep(micros int) []api.Act {
	var acts []api.Act
	for part := range micros {
		acts = append(acts, forward(part), backward(part))
	}
	return acts
}

// aheadBy is a stage that goes so many parts ahead: all Forwards in order, and
// each Backward put behind the Forward so many parts later, or at the end.
func aheadBy(by, micros int) []api.Act {
	acts := parts(api.Forward, micros)
	for part := range micros {
		at := slices.Index(acts, forward(part+by)) + 1
		if at == 0 {
			at = len(acts)
		}
		acts = slices.Insert(acts, at, backward(part))
	}
	return acts
}

// orders has all orders of some acts.
func orders(acts []api.Act) [][]api.Act {
	if len(acts) == 0 {
		return [][]api.Act{nil}
	}
	var all [][]api.Act
	for i, first := range acts {
		rest := slices.Delete(slices.Clone(acts), i, i+1)
		for _, order := range orders(rest) {
			all = append(all, append([]api.Act{first}, order...))
		}
	}
	return all
}

// rightOrders has all orders of all acts of so many parts in which no Backward
// stands ahead of its Forward.
func rightOrders(micros int) [][]api.Act {
	all := orders(append(parts(api.Forward, micros), parts(api.Backward, micros)...))
	return slices.DeleteFunc(all, func(acts []api.Act) bool { return toldOfStage(acts, micros) != api.OK })
}

// plansOf has all plans of so many stages, each of which has one of these orders.
func plansOf(stages int, choices [][]api.Act) [][][]api.Act {
	all := [][][]api.Act{nil}
	for range stages {
		var longer [][][]api.Act
		for _, plan := range all {
			for _, acts := range choices {
				longer = append(longer, append(slices.Clone(plan), acts))
			}
		}
		all = longer
	}
	return all
}

// shuffled has some order in which no Backward stands ahead of its Forward.
func shuffled(r *rand.Rand, micros int) []api.Act {
	acts := append(parts(api.Forward, micros), parts(api.Backward, micros)...)
	r.Shuffle(len(acts), func(i, j int) { acts[i], acts[j] = acts[j], acts[i] })
	for part := range micros {
		there, back := slices.Index(acts, forward(part)), slices.Index(acts, backward(part))
		if back < there {
			acts[there], acts[back] = acts[back], acts[there]
		}
	}
	return acts
}

func count(acts []api.Act, one api.Act) int {
	found := 0
	for _, act := range acts {
		if act == one {
			found++
		}
	}
	return found
}

// toldOfStage is what the chapter says of one stage, in its order.
func toldOfStage(acts []api.Act, micros int) api.Errno {
	for _, act := range acts {
		if act.Kind < 1 || act.Kind > 2 || act.Micro < 0 || act.Micro > micros-1 {
			return api.ErrRange
		}
	}
	for _, act := range acts {
		if count(acts, act) > 1 {
			return api.ErrTwice
		}
	}
	for part := range micros {
		if count(acts, forward(part)) == 0 || count(acts, backward(part)) == 0 {
			return api.ErrShape
		}
	}
	for part := range micros {
		if slices.Index(acts, backward(part)) < slices.Index(acts, forward(part)) {
			return api.ErrOrder
		}
	}
	return api.OK
}

// toldOfCheck is what the chapter says of a plan, in its order.
func toldOfCheck(plan [][]api.Act, micros int) api.Errno {
	if micros < 1 || micros > 12 || len(plan) < 1 || len(plan) > 6 {
		return api.ErrRange
	}
	for _, acts := range plan {
		if told := toldOfStage(acts, micros); told != api.OK {
			return told
		}
	}
	if goesRound(plan) {
		return api.ErrStuck
	}
	return api.OK
}

// goesRound tells whether any act waits, in the end, for itself: nothing is
// done here, but all that each act waits for is marked, and what that waits for.
func goesRound(plan [][]api.Act) bool {
	long := len(plan[0])
	size := len(plan) * long
	waits := make([][]bool, size)
	for i := range waits {
		waits[i] = make([]bool, size)
	}
	at := func(stage int, act api.Act) int { return stage*long + slices.Index(plan[stage], act) }
	for stage, acts := range plan {
		for i, act := range acts {
			self := stage*long + i
			if i > 0 {
				waits[self][self-1] = true
			}
			if act.Kind == api.Forward && stage > 0 {
				waits[self][at(stage-1, act)] = true
			}
			if act.Kind == api.Backward {
				waits[self][at(stage, forward(act.Micro))] = true
			}
			if act.Kind == api.Backward && stage < len(plan)-1 {
				waits[self][at(stage+1, act)] = true
			}
		}
	}
	return reachesItself(waits)
}

func reachesItself(waits [][]bool) bool {
	for over := range waits {
		for from := range waits {
			if !waits[from][over] {
				continue
			}
			for to := range waits {
				waits[from][to] = waits[from][to] || waits[over][to]
			}
		}
	}
	for i := range waits {
		if waits[i][i] {
			return true
		}
	}
	return false
}

// isEven leaves out all that is no Backward, and looks at what is left.
func isEven(plan [][]api.Act, micros int) bool {
	for _, acts := range plan {
		back := slices.DeleteFunc(slices.Clone(acts), func(act api.Act) bool { return act.Kind != api.Backward })
		if !slices.Equal(back, parts(api.Backward, micros)) {
			return false
		}
	}
	return true
}

// mustCheck asks Check, and Even, which tells the same first.
func mustCheck(t *testing.T, name string, plan [][]api.Act, micros int, told api.Errno) {
	t.Helper()
	if got := plain.Told(Check(plan, micros)); got != told {
		t.Errorf("%s: Check(%v, %d) = %v, want %v", name, plan, micros, got, told)
	}
	even, err := Even(plan, micros)
	if got := plain.Told(err); got != told || even && told != api.OK {
		t.Errorf("%s: Even(%v, %d) = %v, %v, want %v", name, plan, micros, even, got, told)
	}
}

func mustCheckSlowly(t *testing.T, name string, plan [][]api.Act, micros int) {
	t.Helper()
	mustCheck(t, name, plan, micros, toldOfCheck(plan, micros))
}

func mustEven(t *testing.T, name string, plan [][]api.Act, micros int, want bool) {
	t.Helper()
	if got, err := Even(plan, micros); got != want || err != nil {
		t.Errorf("%s: Even(%v, %d) = %v, %v, want %v", name, plan, micros, got, err, want)
	}
}

type maker func(stages, micros int) ([][]api.Act, error)

// makers are those of the package, by their names.
func makers() map[string]maker { return map[string]maker{"Wave": Wave, "Turns": Turns} }

func mustMake(t *testing.T, name string, stages, micros int, want [][]api.Act) {
	t.Helper()
	got, err := makers()[name](stages, micros)
	if err != nil || !reflect.DeepEqual(got, want) {
		t.Errorf("%s(%d, %d) = %v, %v, want %v", name, stages, micros, got, err, want)
	}
}

func mustRefuse(t *testing.T, stages, micros int) {
	t.Helper()
	for name, made := range makers() {
		got, err := made(stages, micros)
		if len(got) != 0 || plain.Told(err) != api.ErrRange {
			t.Errorf("%s(%d, %d) = %v, %v, want ErrRange and nothing", name, stages, micros, got, err)
		}
	}
}

// made is what a maker tells of numbers that are right.
func made(t *testing.T, name string, stages, micros int) [][]api.Act {
	t.Helper()
	plan, err := makers()[name](stages, micros)
	if err != nil {
		t.Fatalf("%s(%d, %d): %v", name, stages, micros, err)
	}
	return plan
}

func sized(stages, micros int) string { return fmt.Sprint(stages, " stages, ", micros, " parts") }
