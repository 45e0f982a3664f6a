package cut

import (
	"math"
	"math/rand"
	"slices"
	"testing"

	"galley/api"
)

func TestC2Best(t *testing.T) {
	four := list(4, 1, 1, 6)
	mustBest(t, "one stage", four, 1, list(4), 12, api.OK)
	mustBest(t, "two stages", four, 2, list(3, 4), 6, api.OK)
	mustBest(t, "three stages", four, 3, list(1, 3, 4), 6, api.OK)
	mustBest(t, "as many stages as layers", four, 4, upTo(4), 6, api.OK)
	mustBest(t, "one layer", list(7), 1, list(1), 7, api.OK)
	mustBest(t, "rising", upTo(12), 6, list(5, 7, 9, 10, 11, 12), 17, api.OK)
	mustBest(t, "falling", list(12, 11, 10, 9, 8, 7, 6, 5, 4, 3, 2, 1), 3, list(2, 5, 12), 28, api.OK)
}

func TestC2BestOfStages(t *testing.T) {
	for layers := 1; layers <= api.MaxLayers; layers++ {
		for _, stages := range list(math.MinInt, -6, -1, 0, 7, 8, 12, 13, math.MaxInt) {
			refuseBest(t, "stages", same(1, layers), stages, api.ErrRange)
		}
		for stages := 1; stages <= api.MaxStages; stages++ {
			if stages > layers {
				refuseBest(t, "more stages than layers", same(1, layers), stages, api.ErrShape)
				continue
			}
			mustBestSlowly(t, "all alike", same(1, layers), stages)
		}
	}
}

func TestC2BestOfLayers(t *testing.T) {
	for stages := 1; stages <= api.MaxStages; stages++ {
		refuseBest(t, "nil", nil, stages, api.ErrRange)
		refuseBest(t, "empty", list(), stages, api.ErrRange)
		refuseBest(t, "MaxLayers and one more", same(1, 13), stages, api.ErrRange)
		refuseBest(t, "far more", same(1, 100000), stages, api.ErrRange)
		mustBestSlowly(t, "MaxLayers", same(1, 12), stages)
	}
}

func TestC2BestOfCosts(t *testing.T) {
	mustBest(t, "MaxCost", list(dear), 1, list(1), dear, api.OK)
	mustBest(t, "0", list(0), 1, list(1), 0, api.OK)
	mustBest(t, "all MaxCost, one stage", same(dear, 12), 1, list(12), 12*dear, api.OK)
	mustBest(t, "all MaxCost, MaxStages stages", same(dear, 12), 6, list(2, 4, 6, 8, 10, 12), 2*dear, api.OK)
	for _, cost := range list(dear+1, math.MaxInt, -1, math.MinInt) {
		for layers := 1; layers <= api.MaxLayers; layers++ {
			for at := range layers {
				costs := same(1, layers)
				costs[at] = cost
				refuseBest(t, "a cost", costs, 1, api.ErrRange)
				refuseBest(t, "a cost", costs, min(layers, 6), api.ErrRange)
			}
		}
	}
}

func TestC2WhatBestTellsFirst(t *testing.T) {
	refuseBest(t, "stages that are also more than layers", list(1, 2), 7, api.ErrRange)
	refuseBest(t, "stages, and no layers", nil, 7, api.ErrRange)
	refuseBest(t, "no stages, and no layers", nil, 0, api.ErrRange)
	refuseBest(t, "no layers, ahead of more stages than layers", nil, 1, api.ErrRange)
	refuseBest(t, "a cost, ahead of more stages than layers", list(1, -1), 3, api.ErrRange)
	refuseBest(t, "a cost beyond, ahead of more stages than layers", list(dear+1), 6, api.ErrRange)
	refuseBest(t, "all at once", same(-1, 13), 14, api.ErrRange)
}

// TestC2TheFirst: where several cuts are as cheap, stages end as early as may be.
func TestC2TheFirst(t *testing.T) {
	mustBest(t, "a dear layer, last", list(1, 1, 1, 9), 2, list(3, 4), 9, api.OK)
	mustBest(t, "a dear layer, first", list(9, 1, 1, 1), 2, list(1, 4), 9, api.OK)
	mustBest(t, "a dear layer, first, more stages", list(9, 1, 1, 1, 1), 3, list(1, 2, 5), 9, api.OK)
	mustBest(t, "a dear layer, between", list(1, 1, 20, 1, 1), 3, list(2, 3, 5), 20, api.OK)
	mustBest(t, "a dear layer, between, as many as may be", list(1, 1, 20, 1, 1, 1), 5, list(1, 2, 3, 4, 6), 20, api.OK)
	mustBest(t, "three alike", list(1, 1, 1), 2, list(1, 3), 2, api.OK)
	mustBest(t, "five alike", same(1, 5), 3, list(1, 3, 5), 2, api.OK)
	mustBest(t, "seven alike", same(1, 7), 3, list(1, 4, 7), 3, api.OK)
	mustBest(t, "0 behind", list(5, 0, 0, 5), 2, list(1, 4), 5, api.OK)
	mustBest(t, "0 ahead", list(0, 0, 5, 5), 2, list(3, 4), 5, api.OK)
	mustBest(t, "0 ahead, three stages", list(0, 0, 5, 5), 3, list(1, 3, 4), 5, api.OK)
	mustBest(t, "not the most even", list(1, 1, 1, 1, 4), 3, list(1, 4, 5), 4, api.OK)
	mustBest(t, "all 0, one layer a stage, the rest behind", same(0, 4), 2, list(1, 4), 0, api.OK)
	mustBest(t, "all 0, MaxLayers, MaxStages", same(0, 12), 6, list(1, 2, 3, 4, 5, 12), 0, api.OK)
}

func TestC2AllCostNothing(t *testing.T) {
	for layers := 1; layers <= api.MaxLayers; layers++ {
		for stages := 1; stages <= min(layers, api.MaxStages); stages++ {
			mustBest(t, "all 0", same(0, layers), stages, append(upTo(stages-1), layers), 0, api.OK)
		}
	}
}

// TestC2OneDearLayer: it is dearer than all others together, so with stages
// enough it alone is what the dearest stage costs.
func TestC2OneDearLayer(t *testing.T) {
	for layers := 1; layers <= api.MaxLayers; layers++ {
		for at := range layers {
			costs := same(1, layers)
			costs[at] = dear
			for stages := 1; stages <= min(layers, api.MaxStages); stages++ {
				mustBestSlowly(t, "one dear layer", costs, stages)
				_, limit, err := Best(costs, stages)
				if err != nil || stages >= 3 && limit != dear {
					t.Errorf("Best(%v, %d) costs %d, %v", costs, stages, limit, err)
				}
			}
		}
	}
}

// TestC3AllSmall tries all cuts of all nets of few layers with small costs.
func TestC3AllSmall(t *testing.T) {
	var ask func(costs []int)
	ask = func(costs []int) {
		for stages := 1; stages <= len(costs); stages++ {
			mustBestSlowly(t, "small", costs, stages)
		}
		if len(costs) == 5 {
			return
		}
		for cost := range 5 {
			ask(append(slices.Clone(costs), cost))
		}
	}
	ask(nil)
}

func TestC3Some(t *testing.T) {
	r := rand.New(rand.NewSource(3))
	for range 5000 {
		costs := someCosts(r, 1+r.Intn(api.MaxLayers))
		mustBestSlowly(t, "some", costs, 1+r.Intn(min(len(costs), api.MaxStages)))
	}
}

// TestC3AtLeast holds what Best tells against Check and Cost, against the
// dearest layer and against the share of all, and against one stage less.
func TestC3AtLeast(t *testing.T) {
	r := rand.New(rand.NewSource(4))
	for range 3000 {
		costs := someCosts(r, 1+r.Intn(api.MaxLayers))
		all := 0
		for _, cost := range costs {
			all += cost
		}
		ahead := all
		for stages := 1; stages <= min(len(costs), api.MaxStages); stages++ {
			ends, limit, err := Best(costs, stages)
			if err != nil || len(ends) != stages {
				t.Fatalf("Best(%v, %d) = %v, %v", costs, stages, ends, err)
			}
			mustCheck(t, "best", ends, len(costs), api.OK)
			sums, err := Cost(costs, ends)
			if err != nil || slices.Max(sums) != limit {
				t.Errorf("Best(%v, %d) = %v, %d, and its stages cost %v, %v", costs, stages, ends, limit, sums, err)
			}
			if limit < slices.Max(costs) || limit*stages < all || limit > ahead {
				t.Errorf("Best(%v, %d) costs %d; the dearest layer %d, all %d, with a stage less %d",
					costs, stages, limit, slices.Max(costs), all, ahead)
			}
			ahead = limit
		}
	}
}
