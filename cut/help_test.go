package cut

import (
	"slices"
	"testing"

	"galley/api"
	"galley/plain"
)

const dear = api.MaxCost

func list(l ...int) []int { return l }

// same makes a list of one number, so often.
func same(x, count int) []int { return slices.Repeat([]int{x}, max(count, 0)) }

// upTo makes the cuts that give each layer a stage, however many they are.
func upTo(layers int) []int {
	var ends []int
	for end := 1; end <= layers; end++ {
		ends = append(ends, end)
	}
	return ends
}

// allCuts has all cuts of so many layers into so many stages, the first one,
// number by number, first.
func allCuts(layers, stages int) [][]int {
	return cutsFrom(nil, 0, layers, stages)
}

func cutsFrom(made []int, from, layers, left int) [][]int {
	if left == 0 {
		if from == layers {
			return [][]int{slices.Clone(made)}
		}
		return nil
	}
	var all [][]int
	for end := from + 1; end <= layers; end++ {
		all = append(all, cutsFrom(append(slices.Clone(made), end), end, layers, left-1)...)
	}
	return all
}

// costSlowly asks of each layer which stage it is in.
func costSlowly(costs, ends []int) []int {
	sums := make([]int, len(ends))
	for i, cost := range costs {
		stage := slices.IndexFunc(ends, func(end int) bool { return i < end })
		sums[stage] += cost
	}
	return sums
}

// bestSlowly tries all cuts in their order, and takes one only where it is
// cheaper than all ahead of it.
func bestSlowly(costs []int, stages int) ([]int, int) {
	var best []int
	limit := -1
	for _, ends := range allCuts(len(costs), stages) {
		if dearest := slices.Max(costSlowly(costs, ends)); limit < 0 || dearest < limit {
			best, limit = ends, dearest
		}
	}
	return best, limit
}

func mustCheck(t *testing.T, name string, ends []int, layers int, told api.Errno) {
	t.Helper()
	if got := plain.Told(Check(ends, layers)); got != told {
		t.Errorf("%s: Check(%v, %d) = %v, want %v", name, ends, layers, got, told)
	}
}

func mustCost(t *testing.T, name string, costs, ends, want []int, told api.Errno) {
	t.Helper()
	got, err := Cost(costs, ends)
	if !slices.Equal(got, want) || plain.Told(err) != told {
		t.Errorf("%s: Cost(%v, %v) = %v, %v; want %v, %v", name, costs, ends, got, err, want, told)
	}
}

func refuseCost(t *testing.T, name string, costs, ends []int, told api.Errno) {
	t.Helper()
	mustCost(t, name, costs, ends, nil, told)
}

func mustBest(t *testing.T, name string, costs []int, stages int, want []int, limit int, told api.Errno) {
	t.Helper()
	got, cost, err := Best(costs, stages)
	if !slices.Equal(got, want) || cost != limit || plain.Told(err) != told {
		t.Errorf("%s: Best(%v, %d) = %v, %d, %v; want %v, %d, %v", name, costs, stages, got, cost, err, want, limit, told)
	}
}

func refuseBest(t *testing.T, name string, costs []int, stages int, told api.Errno) {
	t.Helper()
	mustBest(t, name, costs, stages, nil, 0, told)
}

func mustBestSlowly(t *testing.T, name string, costs []int, stages int) {
	t.Helper()
	ends, limit := bestSlowly(costs, stages)
	mustBest(t, name, costs, stages, ends, limit, api.OK)
}

type claim struct {
	holds bool
	told  api.Errno
}

// firstOf gives what is told first, or OK.
func firstOf(claims ...claim) api.Errno {
	for _, c := range claims {
		if c.holds {
			return c.told
		}
	}
	return api.OK
}

func noNumber(layers int) bool { return layers < 1 || layers > 12 }

func noCost(costs []int) bool {
	return slices.ContainsFunc(costs, func(cost int) bool { return cost < 0 || cost > 1000000 })
}

// toldOfCheck is what the chapter says of cuts, in its order: they are right
// if they are among all that there are.
func toldOfCheck(ends []int, layers int) api.Errno {
	if noNumber(layers) {
		return api.ErrRange
	}
	if len(ends) < 1 || len(ends) > 6 {
		return api.ErrShape
	}
	all := allCuts(layers, len(ends))
	found := slices.ContainsFunc(all, func(c []int) bool { return slices.Equal(c, ends) })
	return firstOf(claim{!found, api.ErrOrder})
}

func toldOfCost(costs, ends []int) api.Errno {
	if noCost(costs) {
		return api.ErrRange
	}
	return toldOfCheck(ends, len(costs))
}

func toldOfBest(costs []int, stages int) api.Errno {
	return firstOf(
		claim{stages < 1 || stages > 6, api.ErrRange},
		claim{noNumber(len(costs)), api.ErrRange},
		claim{noCost(costs), api.ErrRange},
		claim{stages > len(costs), api.ErrShape},
	)
}
