package peak

import (
	"fmt"
	"math"
	"math/rand"
	"slices"
	"testing"

	"galley/api"
)

// memory has lists behind each of which something stands, and tells whether any
// of it was written into.
type memory struct {
	look []func() string
	was  string
}

func (m *memory) text() string {
	var all string
	for _, look := range m.look {
		all += look() + "\n"
	}
	return all
}

func (m *memory) stays(t *testing.T, name string) {
	t.Helper()
	if now := m.text(); now != m.was {
		t.Errorf("%s: what was handed in was %s and is %s", name, m.was, now)
	}
}

// lay copies a list, and lays something behind it.
func lay[T any](m *memory, list []T, behind ...T) []T {
	whole := append(slices.Clone(list), behind...)
	m.look = append(m.look, func() string { return fmt.Sprint(whole) })
	m.was = m.text()
	return whole[:len(list)]
}

// layLists does so with each list of a list, too.
func layLists[T any](m *memory, lists [][]T, behind ...T) [][]T {
	var laid [][]T
	for _, list := range lists {
		laid = append(laid, lay(m, list, behind...))
	}
	return lay(m, laid, behind, behind[:1])
}

// Whoever read this behind a list would tell something else.
func actsBehind() []api.Act {
	return []api.Act{{Kind: api.Forward}, {Kind: 3, Micro: -91}, {Kind: api.Backward}}
}

func sizesBehind() []int { return []int{5, math.MinInt, math.MaxInt} }

// TestRuleP2ListsStay: nothing that is handed in is written into, whatever is
// told, and nothing that stands behind it is read.
func TestRuleP2ListsStay(t *testing.T) {
	r := rand.New(rand.NewSource(4))
	for stages := 1; stages <= api.MaxStages; stages++ {
		for micros := 1; micros <= api.MaxMicros; micros++ {
			acts, sizes := somePlan(r, stages, micros), someSizes(r, micros)
			peaks, held := byPlaces(acts, sizes)
			var m memory
			laid, laidSizes := layLists(&m, acts, actsBehind()...), lay(&m, sizes, sizesBehind()...)
			mustPeaks(t, laid, micros, peaks...)
			mustHeld(t, laid, micros, laidSizes, held...)
			refuseHeld(t, "fewer sizes", laid, micros, laidSizes[:micros-1], api.ErrShape)
			refuseHeld(t, "wrong sizes", laid, micros, lay(&m, all(micros, -1), sizesBehind()...), api.ErrRange)
			fewer := layLists(&m, [][]api.Act{acts[0][:2*micros-1]}, actsBehind()...)
			refusePeaks(t, "fewer acts", fewer, micros, api.ErrShape)
			refuseHeld(t, "fewer acts", fewer, micros, laidSizes, api.ErrShape)
			m.stays(t, sized("some plan", stages, micros))
		}
	}
}

// TestRuleP2OneListForAll: one and the same list may be handed in at many places.
func TestRuleP2OneListForAll(t *testing.T) {
	for stages := 1; stages <= api.MaxStages; stages++ {
		line := of("F0 B0 F1 B1")[0]
		acts := slices.Repeat([][]api.Act{line}, stages)
		mustPeaks(t, acts, 2, all(stages, 1)...)
		mustHeld(t, acts, 2, []int{4, 3}, all(stages, 4)...)
		if !slices.Equal(line, of("F0 B0 F1 B1")[0]) {
			t.Errorf("one list is %v", line)
		}
	}
}

// TestRuleP2AnswersAreApart: what is told shares memory neither with what was
// handed in nor with what is told once more, nor behind the lists' lengths.
func TestRuleP2AnswersAreApart(t *testing.T) {
	r := rand.New(rand.NewSource(6))
	for stages := 1; stages <= api.MaxStages; stages++ {
		for micros := 1; micros <= api.MaxMicros; micros++ {
			acts, sizes := somePlan(r, stages, micros), someSizes(r, micros)
			wereSizes := slices.Clone(sizes)
			var lists [][]int
			for range 2 {
				peaks, err := Peaks(acts, micros)
				held, other := Held(acts, micros, sizes)
				if err != nil || other != nil {
					t.Fatalf("%s: %v, %v", sized("some plan", stages, micros), err, other)
				}
				lists = append(lists, peaks, held)
			}
			mustBeApart(t, sized("some plan", stages, micros), lists)
			if !slices.Equal(sizes, wereSizes) {
				t.Errorf("%s: an answer shares memory with the sizes", sized("some plan", stages, micros))
			}
			mustBoth(t, acts, micros, sizes)
		}
	}
}

// mustBeApart writes into all the memory of each list, also behind its length,
// and holds that each still has what was written into it.
func mustBeApart(t *testing.T, name string, lists [][]int) {
	t.Helper()
	for i, list := range lists {
		for j := range list[:cap(list)] {
			list[:cap(list)][j] = -7 - i
		}
	}
	for i, list := range lists {
		for _, x := range list[:cap(list)] {
			if x != -7-i {
				t.Errorf("%s: the lists %d and %d share memory", name, i, -7-x)
				break
			}
		}
	}
}

// TestRuleP2NothingIsKept: what is told hangs on nothing that was asked ahead,
// and not on what the lists of a call ahead have become.
func TestRuleP2NothingIsKept(t *testing.T) {
	acts, sizes := of("F0 F1 B0 B1"), []int{3, 4}
	for range 20 {
		mustPeaks(t, acts, 2, 2)
		mustHeld(t, acts, 2, sizes, 7)
		acts[0][1], acts[0][2], sizes[0] = acts[0][2], acts[0][1], 6
		mustPeaks(t, acts, 2, 1)
		mustHeld(t, acts, 2, sizes, 6)
		acts[0][1], acts[0][2], sizes[0] = acts[0][2], acts[0][1], 3
		refusePeaks(t, "of more parts", acts, 3, api.ErrShape)
		refuseHeld(t, "of fewer sizes", acts, 2, sizes[:1], api.ErrShape)
	}
}

// TestRuleP4EmptyIsNil: an empty list of sizes is told of as none at all.
func TestRuleP4EmptyIsNil(t *testing.T) {
	for _, sizes := range [][]int{nil, {}} {
		refuseHeld(t, "no sizes", of("F0 B0"), 1, sizes, api.ErrShape)
	}
	for _, acts := range [][][]api.Act{nil, {}} {
		refusePeaks(t, "no stages", acts, 1, api.ErrRange)
		refuseHeld(t, "no stages", acts, 1, []int{1}, api.ErrRange)
	}
	for _, acts := range [][][]api.Act{{nil}, {{}}} {
		refusePeaks(t, "no acts", acts, 1, api.ErrShape)
		refuseHeld(t, "no acts", acts, 1, []int{-1, -1}, api.ErrShape)
	}
}
