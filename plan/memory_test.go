package plan

import (
	"fmt"
	"slices"
	"testing"

	"galley/api"
)

// memory lays out a plan so that something stands behind each of its lists, and
// behind their list, and tells whether any of it was written into.
type memory struct {
	all [][]api.Act
	was string
}

func (m *memory) lay(plan [][]api.Act) [][]api.Act {
	// What stands behind is no act, or one too many: whoever read it would be off.
	behind := []api.Act{{Kind: 3, Micro: -91}, forward(0), backward(0)}
	laid := make([][]api.Act, 0, len(plan)+2)
	for _, acts := range plan {
		whole := append(slices.Clone(acts), behind...)
		m.all = append(m.all, whole)
		laid = append(laid, whole[:len(acts)])
	}
	laid = append(laid, behind, behind[:1])
	m.all = append(m.all, laid[len(plan):]...)
	m.was = m.text(laid)
	return laid[:len(plan)]
}

func (m *memory) text(laid [][]api.Act) string { return fmt.Sprint(m.all, laid[:cap(laid)]) }

func (m *memory) stays(t *testing.T, name string, laid [][]api.Act) {
	t.Helper()
	if now := m.text(laid); now != m.was {
		t.Errorf("%s: what was handed in was %s and is %s", name, m.was, now)
	}
}

// TestRuleP2PlansStay: nothing is written into a plan, whatever is told of it,
// and nothing is read that stands behind its lists.
func TestRuleP2PlansStay(t *testing.T) {
	plans := [][][]api.Act{
		nil,
		of(""),
		of("F0 B0"),
		of("F0 F1 B1 B0"),
		of("F0 F1 B0 B1", "F1 F0 B0 B1"),
		of("F0 F1 B0 B1", "F1 B1 F0 B0"),
		of("F0 B0 F1 B1", "F0 F1 B0 B1"),
		of("F0 B0 F1 B1", "F0 B0 F1"),
		of("F0 B0 F1 B1", "B0 F0 F1 B1"),
		of("F0 B0 F1 B1", "F0 B0 F1 F1"),
		of("F0 B0 F1 B1", "F0 B0 X1 Z1"),
		times(7, lockstep(2)),
	}
	for stages := 1; stages <= api.MaxStages; stages++ {
		plans = append(plans, made(t, "Wave", stages, 2), made(t, "Turns", stages, 2))
	}
	for i, plan := range plans {
		for micros := range 4 {
			var m memory
			laid := m.lay(plan)
			name := fmt.Sprint("plan ", i, ", ", micros, " parts")
			told := toldOfCheck(plan, micros)
			mustCheck(t, name, laid, micros, told)
			if told == api.OK {
				mustEven(t, name, laid, micros, isEven(plan, micros))
			}
			m.stays(t, name, laid)
		}
	}
}

// TestRuleP2OneListForAll: stages may be handed in as one and the same list.
func TestRuleP2OneListForAll(t *testing.T) {
	for stages := 1; stages <= api.MaxStages; stages++ {
		acts := lockstep(3)
		plan := slices.Repeat([][]api.Act{acts}, stages)
		mustCheck(t, "one list", plan, 3, api.OK)
		mustEven(t, "one list", plan, 3, true)
		if !slices.Equal(acts, lockstep(3)) {
			t.Errorf("one list is %v", acts)
		}
	}
}

// TestRuleP2PlansAreApart: what is told shares memory neither within itself nor
// with what is told once more, nor behind the lists' lengths.
func TestRuleP2PlansAreApart(t *testing.T) {
	for name := range makers() {
		for stages := 1; stages <= api.MaxStages; stages++ {
			for micros := 1; micros <= api.MaxMicros; micros++ {
				first, second := made(t, name, stages, micros), made(t, name, stages, micros)
				was := copyOf(first)
				mustBeApart(t, name, append(slices.Clone(first), second...))
				clear(first[:cap(first)])
				if slices.ContainsFunc(second, func(acts []api.Act) bool { return acts == nil }) {
					t.Errorf("%s(%d, %d): two plans share memory", name, stages, micros)
				}
				mustMake(t, name, stages, micros, was)
			}
		}
	}
}

// mustBeApart writes into all the memory of each list, also behind its length,
// and holds that each still has what was written into it.
func mustBeApart(t *testing.T, name string, lists [][]api.Act) {
	t.Helper()
	for i, acts := range lists {
		for j := range acts[:cap(acts)] {
			acts[:cap(acts)][j] = api.Act{Micro: i}
		}
	}
	for i, acts := range lists {
		for _, act := range acts[:cap(acts)] {
			if act.Micro != i {
				t.Errorf("%s: the lists %d and %d share memory", name, i, act.Micro)
				break
			}
		}
	}
}

// TestRuleP2NothingIsKept: what is told hangs on nothing that was asked ahead.
func TestRuleP2NothingIsKept(t *testing.T) {
	right, stuck := of("F0 F1 B0 B1", "F0 B0 F1 B1"), of("F0 B0 F1 B1", "F0 F1 B0 B1")
	for range 20 {
		mustCheck(t, "right", right, 2, api.OK)
		mustCheck(t, "stuck", stuck, 2, api.ErrStuck)
		mustCheck(t, "of more parts", right, 3, api.ErrShape)
		mustCheck(t, "of fewer parts", right, 1, api.ErrRange)
		mustEven(t, "right", right, 2, true)
		mustRefuse(t, 0, 0)
	}
}
