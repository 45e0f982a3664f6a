package cut

import (
	"fmt"
	"math"
	"math/rand"
	"slices"
	"testing"

	"galley/api"
)

func TestC1CheckOfLayers(t *testing.T) {
	for layers := 1; layers <= api.MaxLayers; layers++ {
		mustCheck(t, "one stage", list(layers), layers, api.OK)
	}
	for _, layers := range list(13, 14, 100, math.MaxInt, 0, -1, -12, math.MinInt) {
		mustCheck(t, "one stage", list(layers), layers, api.ErrRange)
		mustCheck(t, "two stages", list(1, layers), layers, api.ErrRange)
	}
}

func TestC1CheckOfStages(t *testing.T) {
	mustCheck(t, "nil", nil, 3, api.ErrShape)
	mustCheck(t, "empty", list(), 1, api.ErrShape)
	for stages := 1; stages <= api.MaxLayers; stages++ {
		told := api.OK
		if stages > api.MaxStages {
			told = api.ErrShape
		}
		mustCheck(t, "as many stages as layers", upTo(stages), stages, told)
	}
	mustCheck(t, "MaxStages stages of MaxLayers layers", list(1, 2, 3, 4, 5, 12), 12, api.OK)
	mustCheck(t, "MaxStages stages, the last ones small", list(7, 8, 9, 10, 11, 12), 12, api.OK)
	mustCheck(t, "one stage more than may be", list(6, 7, 8, 9, 10, 11, 12), 12, api.ErrShape)
	mustCheck(t, "far more", upTo(100000), 12, api.ErrShape)
}

func TestC1CheckOfOrder(t *testing.T) {
	for _, c := range []struct {
		name   string
		ends   []int
		layers int
		told   api.Errno
	}{
		{"by one", list(1, 2, 3), 3, api.OK},
		{"by more", list(2, 5, 9), 9, api.OK},
		{"stands still", list(2, 2), 2, api.ErrOrder},
		{"stands still at first", list(1, 1, 3), 3, api.ErrOrder},
		{"stands still between", list(1, 2, 2, 3), 3, api.ErrOrder},
		{"falls", list(3, 2, 4), 4, api.ErrOrder},
		{"falls to the last", list(1, 5, 4), 4, api.ErrOrder},
		{"falls from beyond", list(math.MaxInt, 4), 4, api.ErrOrder},
		{"falls by much", list(math.MaxInt, math.MinInt, 4), 4, api.ErrOrder},
		{"begins at 0", list(0, 4), 4, api.ErrOrder},
		{"0 alone", list(0), 1, api.ErrOrder},
		{"begins below 0", list(-1, 4), 4, api.ErrOrder},
		{"begins far below 0", list(math.MinInt, 4), 4, api.ErrOrder},
		{"rises from below 0", list(-2, -1, 4), 4, api.ErrOrder},
		{"below 0 alone", list(-4), 4, api.ErrOrder},
		{"the last one too small", list(1, 3), 4, api.ErrOrder},
		{"alone too small", list(3), 4, api.ErrOrder},
		{"the last one too great", list(1, 5), 4, api.ErrOrder},
		{"alone too great", list(5), 4, api.ErrOrder},
		{"far too great", list(1, math.MaxInt), 4, api.ErrOrder},
		{"all is there, and one more", list(2, 4, 5), 4, api.ErrOrder},
		{"more stages than layers", list(1, 2, 3), 2, api.ErrOrder},
		{"one stage more than one layer", list(1, 2), 1, api.ErrOrder},
	} {
		mustCheck(t, c.name, c.ends, c.layers, c.told)
		mustCost(t, c.name, same(1, c.layers), c.ends, costIf(c.told, same(1, c.layers), c.ends), c.told)
	}
}

func costIf(told api.Errno, costs, ends []int) []int {
	if told != api.OK {
		return nil
	}
	return costSlowly(costs, ends)
}

func TestC1WhatCheckTellsFirst(t *testing.T) {
	mustCheck(t, "layers, ahead of none", nil, 0, api.ErrRange)
	mustCheck(t, "layers, ahead of too many stages", upTo(13), 13, api.ErrRange)
	mustCheck(t, "layers, ahead of order", list(2, 2), -2, api.ErrRange)
	mustCheck(t, "layers, ahead of the last one", list(1, 2), 13, api.ErrRange)
	mustCheck(t, "all at once", same(-1, 7), math.MinInt, api.ErrRange)
	mustCheck(t, "too many stages, ahead of order", same(2, 7), 12, api.ErrShape)
	mustCheck(t, "too many stages, ahead of the last one", upTo(7), 12, api.ErrShape)
	mustCheck(t, "too many stages, ahead of 0", list(0, 1, 2, 3, 4, 5, 6), 6, api.ErrShape)
}

// TestC1CheckOfAllSmall asks all lists of small numbers.
func TestC1CheckOfAllSmall(t *testing.T) {
	var ask func(ends []int)
	ask = func(ends []int) {
		for layers := -1; layers <= 4; layers++ {
			mustCheck(t, "small", ends, layers, toldOfCheck(ends, layers))
		}
		if len(ends) == 4 {
			return
		}
		for end := -1; end <= 5; end++ {
			ask(append(slices.Clone(ends), end))
		}
	}
	ask(nil)
}

// TestC1CheckOfAllCuts: all cuts are right, and hardly any is, of which one number is another one.
func TestC1CheckOfAllCuts(t *testing.T) {
	r := rand.New(rand.NewSource(1))
	for layers := 1; layers <= api.MaxLayers; layers++ {
		for stages := 1; stages <= min(layers, api.MaxStages); stages++ {
			for _, ends := range allCuts(layers, stages) {
				mustCheck(t, "a cut", ends, layers, api.OK)
				other := slices.Clone(ends)
				other[r.Intn(stages)] += r.Intn(9) - 4
				mustCheck(t, "nearly a cut", other, layers, toldOfCheck(other, layers))
			}
		}
	}
}

func TestC1Cost(t *testing.T) {
	four := list(4, 1, 1, 6)
	mustCost(t, "one stage", four, list(4), list(12), api.OK)
	mustCost(t, "early", four, list(1, 4), list(4, 8), api.OK)
	mustCost(t, "between", four, list(2, 4), list(5, 7), api.OK)
	mustCost(t, "late", four, list(3, 4), list(6, 6), api.OK)
	mustCost(t, "three", four, list(1, 3, 4), list(4, 2, 6), api.OK)
	mustCost(t, "as many stages as layers", four, upTo(4), four, api.OK)
	mustCost(t, "MaxStages stages", upTo(12), list(2, 4, 6, 8, 10, 12), list(3, 7, 11, 15, 19, 23), api.OK)
	mustCost(t, "one layer", list(7), list(1), list(7), api.OK)
}

func TestC1CostOfEdges(t *testing.T) {
	mustCost(t, "0", list(0), list(1), list(0), api.OK)
	mustCost(t, "all 0", same(0, 12), list(3, 12), list(0, 0), api.OK)
	mustCost(t, "MaxCost", list(dear), list(1), list(dear), api.OK)
	mustCost(t, "all MaxCost", same(dear, 12), list(12), list(12*dear), api.OK)
	mustCost(t, "all MaxCost, two stages", same(dear, 12), list(1, 12), list(dear, 11*dear), api.OK)
	for _, cost := range list(dear+1, 2*dear, math.MaxInt, -1, -dear, math.MinInt) {
		for layers := 1; layers <= api.MaxLayers; layers++ {
			for at := range layers {
				costs := same(1, layers)
				costs[at] = cost
				refuseCost(t, "a cost", costs, list(layers), api.ErrRange)
			}
		}
	}
	refuseCost(t, "more and less that make up for one another", list(dear+1, -1), list(2), api.ErrRange)
}

func TestC1CostOfWrongCuts(t *testing.T) {
	refuseCost(t, "nothing", nil, nil, api.ErrRange)
	refuseCost(t, "no layers", list(), list(0), api.ErrRange)
	refuseCost(t, "no layers, one stage", nil, list(1), api.ErrRange)
	refuseCost(t, "MaxLayers and one more", same(1, 13), list(13), api.ErrRange)
	refuseCost(t, "far more layers", same(1, 100000), list(100000), api.ErrRange)
	refuseCost(t, "no cuts", list(1, 2), nil, api.ErrShape)
	refuseCost(t, "too many stages", same(1, 12), list(1, 2, 3, 4, 5, 6, 12), api.ErrShape)
	refuseCost(t, "as many stages as layers, 7", same(1, 7), upTo(7), api.ErrShape)
	refuseCost(t, "the last one is beyond the layers", list(1, 2), list(1, 3), api.ErrOrder)
	refuseCost(t, "one between is beyond the layers", list(1, 2), list(5, 2), api.ErrOrder)
	refuseCost(t, "the last one leaves a layer", list(1, 2), list(1), api.ErrOrder)
	refuseCost(t, "below 0", list(1, 2), list(-1, 2), api.ErrOrder)
}

func TestC1WhatCostTellsFirst(t *testing.T) {
	refuseCost(t, "a cost, ahead of no cuts", list(1, -1), nil, api.ErrRange)
	refuseCost(t, "a cost, ahead of too many stages", append(same(1, 11), dear+1), upTo(12), api.ErrRange)
	refuseCost(t, "a cost, ahead of order", list(dear+1, 1), list(2, 2), api.ErrRange)
	refuseCost(t, "a cost, ahead of the last one", list(1, -1), list(1), api.ErrRange)
	refuseCost(t, "layers, ahead of no cuts", same(1, 13), nil, api.ErrRange)
	refuseCost(t, "layers, ahead of too many stages", same(1, 13), upTo(13), api.ErrRange)
	refuseCost(t, "layers, ahead of order", nil, list(2, 2), api.ErrRange)
	refuseCost(t, "too many stages, ahead of order", same(1, 7), same(1, 7), api.ErrShape)
	refuseCost(t, "all at once", same(-1, 13), nil, api.ErrRange)
}

func TestC1CostOfAllCuts(t *testing.T) {
	r := rand.New(rand.NewSource(2))
	for layers := 1; layers <= api.MaxLayers; layers++ {
		for stages := 1; stages <= min(layers, api.MaxStages); stages++ {
			for _, ends := range allCuts(layers, stages) {
				costs := someCosts(r, layers)
				mustCost(t, "a cut", costs, ends, costSlowly(costs, ends), api.OK)
			}
		}
	}
}

// someCosts are now near one another, now far, and now at the edges.
func someCosts(r *rand.Rand, layers int) []int {
	bound := list(1, 2, 4, 20, 1000, dear)[r.Intn(6)]
	var costs []int
	for range layers {
		cost := r.Intn(bound + 1)
		if r.Intn(8) == 0 {
			cost = list(0, dear)[r.Intn(2)]
		}
		costs = append(costs, cost)
	}
	return costs
}

// TestRuleP1AllSorts holds all calls against the chapter's order of what is
// told, with all that can be put together of doubtful lists and numbers.
func TestRuleP1AllSorts(t *testing.T) {
	numbers := list(math.MinInt, -13, -1, 0, 1, 2, 3, 5, 6, 7, 11, 12, 13, 14, math.MaxInt)
	lists := [][]int{
		nil, {}, {0}, {1}, {-1}, {2}, {1, 2}, {2, 1}, {2, 2}, {0, 2}, {1, dear}, {1, dear + 1}, {1, 2, 3}, {3, 5, 6},
		{math.MaxInt}, {math.MinInt}, {math.MaxInt, math.MaxInt}, {math.MinInt, 2}, {2, 4, 12}, {2, 4, 13},
		same(3, 5), same(4, 6), same(5, 7), same(dear, 12), same(0, 12), same(0, 13), same(-1, 13), append(same(1, 11), -1),
		upTo(5), upTo(6), upTo(7), upTo(11), upTo(12), upTo(13), {1, 2, 3, 4, 5, 12}, {1, 2, 3, 4, 5, 6, 12}, {6, 7, 8, 9, 10, 12},
	}
	for _, a := range lists {
		for _, n := range numbers {
			mustCheck(t, "all sorts", a, n, toldOfCheck(a, n))
			if told := toldOfBest(a, n); told != api.OK {
				refuseBest(t, "all sorts", a, n, told)
				continue
			}
			mustBestSlowly(t, "all sorts", a, n)
		}
		for i, b := range lists {
			told := toldOfCost(a, b)
			mustCost(t, fmt.Sprint("all sorts, cuts ", i), a, b, costIf(told, a, b), told)
		}
	}
}
