package cut

import (
	"fmt"
	"math"
	"math/rand"
	"slices"
	"testing"

	"galley/api"
)

// memory lays out lists so that something stands behind each, and tells
// whether any of it was written into.
type memory struct {
	lists [][]int
	was   string
}

func (m *memory) lay(l []int) []int {
	// What stands behind is neither cost nor cut: whoever read it would be off.
	all := append(slices.Clone(l), math.MaxInt, -91, math.MinInt, 0)
	m.lists = append(m.lists, all)
	m.was = fmt.Sprint(m.lists)
	return all[:len(l)]
}

func (m *memory) stays(t *testing.T, name string) {
	t.Helper()
	if now := fmt.Sprint(m.lists); now != m.was {
		t.Errorf("%s: what was handed in was %s and is %s", name, m.was, now)
	}
}

// mustBeApart writes into all the memory of each list, also behind its length,
// and holds that each still has what was written into it.
func mustBeApart(t *testing.T, name string, lists [][]int) {
	t.Helper()
	for i, l := range lists {
		for j := range l[:cap(l)] {
			l[:cap(l)][j] = i
		}
	}
	for i, l := range lists {
		for _, x := range l[:cap(l)] {
			if x != i {
				t.Errorf("%s: the lists %d and %d share memory", name, i, x)
				break
			}
		}
	}
}

// TestRuleP2ListsStay: what is handed in stays as it is, what stands behind it
// is not read, and what comes out shares memory with nothing, not even with
// what comes out of the same call once more. As many stages as layers, whose
// costs are the layers' own, are among them.
func TestRuleP2ListsStay(t *testing.T) {
	r := rand.New(rand.NewSource(5))
	for layers := 1; layers <= api.MaxLayers; layers++ {
		for stages := 1; stages <= min(layers, api.MaxStages); stages++ {
			name := fmt.Sprint(layers, " layers, ", stages, " stages")
			costs := someCosts(r, layers)
			best, limit := bestSlowly(costs, stages)
			var m memory
			laid, ends := m.lay(costs), m.lay(best)
			lists := slices.Clone(m.lists)
			for range 2 {
				got, cost, err := Best(laid, stages)
				if !slices.Equal(got, best) || cost != limit || err != nil {
					t.Errorf("%s: Best(%v) = %v, %d, %v", name, costs, got, cost, err)
				}
				sums, err := Cost(laid, ends)
				if !slices.Equal(sums, costSlowly(costs, best)) || err != nil {
					t.Errorf("%s: Cost(%v, %v) = %v, %v", name, costs, best, sums, err)
				}
				mustCheck(t, name, ends, layers, api.OK)
				lists = append(lists, got, sums)
			}
			m.stays(t, name)
			mustBeApart(t, name, lists)
		}
	}
}

// TestRuleP2TheSameListTwice: one list may be handed in as costs and as cuts.
func TestRuleP2TheSameListTwice(t *testing.T) {
	var m memory
	l := m.lay(upTo(5))
	sums, err := Cost(l, l)
	if !slices.Equal(sums, upTo(5)) || err != nil {
		t.Errorf("Cost = %v, %v", sums, err)
	}
	m.stays(t, "the same list")
	mustBeApart(t, "the same list", [][]int{m.lists[0], sums})
}

// TestRuleP2RefusedListsStay: nor is anything written where a call refuses.
func TestRuleP2RefusedListsStay(t *testing.T) {
	for _, c := range []struct {
		costs, ends []int
		stages      int
	}{
		{list(3, 2, 1), list(3, 2, 1), 4},
		{list(3, -1, 1), list(1, 3), 2},
		{list(3, dear+1), list(0, 2), 0},
		{same(1, 13), same(2, 7), 7},
		{list(2, 1), nil, 3},
		{nil, nil, 1},
	} {
		var m memory
		costs, ends := m.lay(c.costs), m.lay(c.ends)
		name := fmt.Sprint(c)
		mustCheck(t, name, ends, len(costs), toldOfCheck(c.ends, len(c.costs)))
		refuseCost(t, name, costs, ends, toldOfCost(c.costs, c.ends))
		refuseBest(t, name, costs, c.stages, toldOfBest(c.costs, c.stages))
		m.stays(t, name)
	}
}
