package clock

import (
	"fmt"
	"math"
	"math/rand"
	"slices"
	"testing"

	"galley/api"
)

// memory has lists behind each of which something stands, and tells whether any
// of it was written into.
type memory struct {
	look []func() string
	was  string
}

func (m *memory) text() string {
	var all string
	for _, look := range m.look {
		all += look() + "\n"
	}
	return all
}

func (m *memory) stays(t *testing.T, name string) {
	t.Helper()
	if now := m.text(); now != m.was {
		t.Errorf("%s: what was handed in was %s and is %s", name, m.was, now)
	}
}

// lay copies a list, and lays something behind it.
func lay[T any](m *memory, list []T, behind ...T) []T {
	whole := append(slices.Clone(list), behind...)
	m.look = append(m.look, func() string { return fmt.Sprint(whole) })
	m.was = m.text()
	return whole[:len(list)]
}

// layLists does so with each list of a list, too.
func layLists[T any](m *memory, lists [][]T, behind ...T) [][]T {
	var laid [][]T
	for _, list := range lists {
		laid = append(laid, lay(m, list, behind...))
	}
	return lay(m, laid, behind, behind[:1])
}

// Whoever read this behind a list would tell something else.
func actsBehind() []api.Act {
	return []api.Act{{Kind: api.Forward}, {Kind: 3, Micro: -91}, {Kind: api.Backward}}
}

func timesBehind() []int { return []int{5, math.MinInt, math.MaxInt} }

func spansBehind() []api.Span {
	return []api.Span{{From: 3, To: math.MaxInt}, {From: math.MinInt, To: 7}}
}

// TestRuleP2ListsOfTimesStay: nothing that Times is handed is written into,
// whatever it tells, and nothing that stands behind it is read.
func TestRuleP2ListsOfTimesStay(t *testing.T) {
	r := rand.New(rand.NewSource(4))
	for stages := 1; stages <= api.MaxStages; stages++ {
		for micros := 1; micros <= api.MaxMicros; micros++ {
			acts := somePlan(r, stages, micros)
			there, back := someTimes(r, stages, 9), someTimes(r, stages, 9)
			var m memory
			laid := layLists(&m, acts, actsBehind()...)
			laidThere, laidBack := lay(&m, there, timesBehind()...), lay(&m, back, timesBehind()...)
			mustTimes(t, laid, micros, laidThere, laidBack, byMinutes(acts, there, back))
			refuseTimes(t, "fewer there", laid, micros, laidThere[:stages-1], laidBack, api.ErrShape)
			refuseTimes(t, "fewer back", laid, micros, laidThere, laidBack[:stages-1], api.ErrShape)
			refuseTimes(t, "fewer acts", layLists(&m, [][]api.Act{acts[0][:2*micros-1]}, actsBehind()...), micros, laidThere, laidBack, api.ErrShape)
			refuseTimes(t, "wrong there", laid, micros, lay(&m, all(stages, 0), timesBehind()...), laidBack, api.ErrRange)
			refuseTimes(t, "wrong back", laid, micros, laidThere, lay(&m, all(stages, api.MaxCost+1), timesBehind()...), api.ErrRange)
			m.stays(t, sized("some plan", stages, micros))
		}
	}
}

// TestRuleP2SpansStay: nothing is written into spans, and nothing that stands
// behind them is read.
func TestRuleP2SpansStay(t *testing.T) {
	lists := [][][]api.Span{
		nil,
		at(""),
		at("", "", ""),
		at("0-5"),
		at("0-1 7-10", "1-3 3-7"),
		at("~9-~5", "", "5-3 9-2"),
	}
	for _, spans := range lists {
		long, idle := toldOfSpans(spans)
		var m memory
		laid := layLists(&m, spans, spansBehind()...)
		mustLong(t, "spans", laid, long)
		mustIdle(t, "spans", laid, idle...)
		m.stays(t, fmt.Sprint(spans))
	}
}

// TestRuleP2OneListForAll: one and the same list may be handed in at many places.
func TestRuleP2OneListForAll(t *testing.T) {
	for stages := 1; stages <= api.MaxStages; stages++ {
		line := of("F0 B0 F1 B1")[0]
		acts := slices.Repeat([][]api.Act{line}, stages)
		times := []int{3, 1, 4, 1, 5, 9}[:stages]
		mustTimes(t, acts, 2, times, times, byMinutes(acts, times, times))
		if !slices.Equal(line, of("F0 B0 F1 B1")[0]) {
			t.Errorf("one list is %v", line)
		}
	}
	spans := slices.Repeat(at("2-4 5-9"), 4)
	mustLong(t, "one list", spans, 9)
	mustIdle(t, "one list", spans, 3, 3, 3, 3)
}

// TestRuleP2TimesAreApart: what is told shares memory neither within itself nor
// with what is told once more, nor behind the lists' lengths.
func TestRuleP2TimesAreApart(t *testing.T) {
	r := rand.New(rand.NewSource(6))
	for stages := 1; stages <= api.MaxStages; stages++ {
		for micros := 1; micros <= api.MaxMicros; micros++ {
			acts, there, back := somePlan(r, stages, micros), someTimes(r, stages, 9), someTimes(r, stages, 9)
			first, second := tell(t, acts, micros, there, back), tell(t, acts, micros, there, back)
			want := byMinutes(acts, there, back)
			mustBeApart(t, sized("some plan", stages, micros), append(slices.Clone(first), second...))
			clear(first[:cap(first)])
			if slices.ContainsFunc(second, func(line []api.Span) bool { return line == nil }) {
				t.Errorf("%s: two answers share memory", sized("some plan", stages, micros))
			}
			mustTimes(t, acts, micros, there, back, want)
		}
	}
}

// mustBeApart writes into all the memory of each list, also behind its length,
// and holds that each still has what was written into it.
func mustBeApart(t *testing.T, name string, lists [][]api.Span) {
	t.Helper()
	for i, line := range lists {
		for j := range line[:cap(line)] {
			line[:cap(line)][j] = api.Span{From: i, To: i}
		}
	}
	for i, line := range lists {
		for _, span := range line[:cap(line)] {
			if span.From != i {
				t.Errorf("%s: the lists %d and %d share memory", name, i, span.From)
				break
			}
		}
	}
}

// TestRuleP2IdleIsApart: so with what Idle tells.
func TestRuleP2IdleIsApart(t *testing.T) {
	spans := at("0-1 7-10", "1-3 3-7")
	first, second := Idle(spans), Idle(spans)
	for i := range first[:cap(first)] {
		first[:cap(first)][i] = 99
	}
	if !slices.Equal(second, []int{6, 4}) {
		t.Errorf("two answers share memory: %v", second)
	}
	mustIdle(t, "once more", spans, 6, 4)
}

// TestRuleP2NothingIsKept: what is told hangs on nothing that was asked ahead,
// and not on what the lists of a call ahead have become.
func TestRuleP2NothingIsKept(t *testing.T) {
	acts, there, back := of("F0 B0", "F0 B0"), []int{1, 2}, []int{3, 4}
	for range 20 {
		mustTimes(t, acts, 1, there, back, at("0-1 7-10", "1-3 3-7"))
		there[0], back[1] = 5, 1
		mustTimes(t, acts, 1, there, back, at("0-5 8-11", "5-7 7-8"))
		there[0], back[1] = 1, 4
		refuseTimes(t, "of more parts", acts, 2, there, back, api.ErrShape)
		mustLong(t, "nothing", nil, 0)
		mustLong(t, "something", at("0-9"), 9)
	}
}
