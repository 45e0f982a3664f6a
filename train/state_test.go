package train

import (
	"fmt"
	"math"
	"slices"
	"testing"

	"galley/api"
	"galley/layer"
	"galley/plain"
)

func TestT1Begin(t *testing.T) {
	for _, c := range []struct {
		name  string
		n     []api.Layer
		speed []api.Grad
	}{
		{"no layers", nil, nil},
		{"an empty list", []api.Layer{}, nil},
		{"each Kind", small().s.Net, gradsOf(api.Grad{W: full(2, 3, 0), B: full(1, 3, 0)}, api.Grad{}, api.Grad{W: of(1, 1, 0)}, api.Grad{B: full(1, 3, 0)})},
		{"numbers at the ends", netOf(scaleOf(-top), shiftOf(top, -top)), gradsOf(api.Grad{W: of(1, 1, 0)}, api.Grad{B: full(1, 2, 0)})},
		{"the greatest", slices.Repeat(netOf(linearOf(full(12, 12, top), full(1, 12, 1))), 12),
			slices.Repeat(gradsOf(api.Grad{W: full(12, 12, 0), B: full(1, 12, 0)}), 12)},
		{"columns that do not go together", netOf(shiftOf(1), shiftOf(1, 2)), gradsOf(api.Grad{B: of(1, 1, 0)}, api.Grad{B: of(1, 2, 0, 0)})},
	} {
		s := Begin(c.n)
		if !sameState(s, stateOf(c.n, c.speed, 0)) {
			t.Errorf("%s: Begin(%v) = %v", c.name, c.n, s)
		}
		mustCheck(t, c.name, s, api.OK)
	}
}

// TestT1BeginOfWrongNets: it has no error, so what is wrong comes out as it is, and Check says it.
func TestT1BeginOfWrongNets(t *testing.T) {
	for _, w := range wrongLayers() {
		n := netOf(reluOf(), w.l)
		s := Begin(n)
		zero := api.Grad{W: zeroed(w.l.W), B: zeroed(w.l.B)}
		if !sameState(s, stateOf(n, gradsOf(api.Grad{}, zero), 0)) {
			t.Errorf("%s: Begin(%v) = %v", w.name, n, s)
		}
		mustCheck(t, w.name, s, w.told)
	}
	for _, count := range []int{12, 13, 1000} {
		n := slices.Repeat(netOf(scaleOf(5)), count)
		s := Begin(n)
		if !sameState(s, stateOf(n, slices.Repeat(gradsOf(api.Grad{W: of(1, 1, 0)}), count), 0)) {
			t.Errorf("Begin of %d layers = %v", count, s)
		}
	}
}

// zeroed has as many cells, right or wrong, all 0.
func zeroed(a api.Matrix) api.Matrix { return of(a.Rows, a.Cols, make([]int, len(a.Cells))...) }

// TestT1BeginIsACopy: what is done to the net does not reach the state, nor the other way round.
func TestT1BeginIsACopy(t *testing.T) {
	n := small().s.Net
	s := Begin(n)
	for i := range n {
		clear(n[i].W.Cells)
		clear(n[i].B.Cells)
	}
	clear(n)
	if !sameNet(s.Net, small().s.Net) {
		t.Errorf("the net was cleared, and the state is %v", s)
	}
	n = small().s.Net
	s = Begin(n)
	for i := range s.Net {
		clear(s.Net[i].W.Cells)
		clear(s.Net[i].B.Cells)
	}
	clear(s.Net)
	if !sameNet(n, small().s.Net) {
		t.Errorf("the state was cleared, and the net is %v", n)
	}
}

func TestT1CheckHowManyLayers(t *testing.T) {
	for count := range api.MaxLayers + 3 {
		s := Begin(slices.Repeat(netOf(scaleOf(1)), count))
		told := api.OK
		if count > api.MaxLayers {
			told = api.ErrFull
		}
		mustCheck(t, fmt.Sprint(count, " layers"), s, told)
	}
	mustCheck(t, "nothing", State{}, api.OK)
	mustCheck(t, "empty lists", stateOf([]api.Layer{}, []api.Grad{}, 0), api.OK)
	mustCheck(t, "many", Begin(make([]api.Layer, 1000)), api.ErrFull)
}

func TestT1CheckHowManySpeeds(t *testing.T) {
	zero := api.Grad{W: of(1, 1, 0)}
	for layers := range api.MaxLayers + 2 {
		for speeds := range api.MaxLayers + 3 {
			s := stateOf(slices.Repeat(netOf(scaleOf(1)), layers), slices.Repeat(gradsOf(zero), speeds), 0)
			mustCheck(t, fmt.Sprint(layers, " layers, ", speeds, " speeds"), s,
				firstOf(claim{layers > 12, api.ErrFull}, claim{layers != speeds, api.ErrShape}))
		}
	}
	mustCheck(t, "an empty speed, and no layer", stateOf(nil, gradsOf(api.Grad{}), 0), api.ErrShape)
	mustCheck(t, "a layer, and no speed", stateOf(netOf(reluOf()), nil, 0), api.ErrShape)
}

func TestT1CheckSteps(t *testing.T) {
	for _, c := range []struct {
		steps int
		told  api.Errno
	}{
		{0, api.OK}, {1, api.OK}, {999999999, api.OK}, {1000000000, api.OK}, {1000000001, api.ErrRange},
		{-1, api.ErrRange}, {math.MinInt, api.ErrRange}, {math.MaxInt, api.ErrRange}, {1 << 32, api.ErrRange},
	} {
		a := small()
		a.s.Steps = c.steps
		mustCheck(t, fmt.Sprint(c.steps, " Steps"), a.s, c.told)
		mustCheck(t, fmt.Sprint(c.steps, " Steps, no layers"), State{Steps: c.steps}, c.told)
		if c.told != api.OK {
			a.refuse(t, fmt.Sprint(c.steps, " Steps"), c.told)
		}
	}
}

// TestT1CheckDoesNotAskColumns: whether layers go together hangs on what is handed in, and is One's to say.
func TestT1CheckDoesNotAskColumns(t *testing.T) {
	s := Begin(netOf(shiftOf(1, 2), shiftOf(1, 2, 3)))
	mustCheck(t, "columns", s, api.OK)
	asked{s, batchOf(of(1, 2, 1, 2), of(1, 3, 1, 2, 3)), 1, api.Rates{}}.refuse(t, "columns", api.ErrShape)
}

func TestT1CheckLayers(t *testing.T) {
	for i := range small().s.Net {
		for _, w := range wrongLayers() {
			a := small()
			a.s.Net[i] = w.l
			mustCheck(t, w.name, a.s, w.told)
			a.refuse(t, w.name, w.told)
			a.s.Speed[i] = api.Grad{W: w.l.W, B: w.l.B}
			mustCheck(t, w.name+", and its speed", a.s, w.told)
			a.refuse(t, w.name+", and its speed", w.told)
		}
	}
}

// speedAt is where a matrix of a speed stands: W, then B.
func speedAt(s State, i, place int) *api.Matrix {
	if place == 0 {
		return &s.Speed[i].W
	}
	return &s.Speed[i].B
}

func TestT1CheckSpeeds(t *testing.T) {
	shapes := []api.Matrix{
		{}, of(0, 1), of(0, 3), of(1, 0), of(2, 0), of(24, 0), full(1, 1, 0), full(1, 2, 0), full(1, 3, 0), full(2, 3, 0),
		full(3, 1, 0), full(3, 2, 0), full(24, 12, 0),
	}
	for i := range small().s.Net {
		for place := range 2 {
			name := fmt.Sprintf("layer %d, place %d, ", i, place)
			for _, w := range wrong() {
				a := small()
				*speedAt(a.s, i, place) = w.a
				mustCheck(t, name+w.name, a.s, w.told)
				a.refuse(t, name+w.name, w.told)
			}
			for _, m := range shapes {
				a := small()
				told := api.OK
				if unlike(*speedAt(a.s, i, place), m) {
					told = api.ErrShape
				}
				*speedAt(a.s, i, place) = m
				mustCheck(t, name+"a shape", a.s, told)
				if told != api.OK {
					a.refuse(t, name+"a shape", told)
				}
			}
		}
	}
}

// TestT1CheckCellsAtTheEnds: -Top and Top may be, one beyond may not, wherever it stands.
func TestT1CheckCellsAtTheEnds(t *testing.T) {
	cellsOf := func(s State, i int) [][]int {
		return [][]int{s.Net[i].W.Cells, s.Net[i].B.Cells, s.Speed[i].W.Cells, s.Speed[i].B.Cells}
	}
	for i := range small().s.Net {
		for place, cells := range cellsOf(small().s, i) {
			for cell := range cells {
				for _, x := range []int{-top, top, -top - 1, top + 1, math.MinInt, math.MaxInt} {
					a := small()
					cellsOf(a.s, i)[place][cell] = x
					if x != end(x) {
						mustCheck(t, "beyond the end", a.s, api.ErrRange)
						a.refuse(t, "beyond the end", api.ErrRange)
						continue
					}
					mustCheck(t, "at the end", a.s, api.OK)
					a.mustSlowly(t, "at the end")
				}
			}
		}
	}
}

// fault is one thing that is wrong.
type fault struct {
	name  string
	spoil func(a *asked)
	told  api.Errno
}

// ranked is one of a state; what has the lower rank is told first. Two of one
// place cannot both be there.
type ranked struct {
	fault
	rank, place int
}

// Ranks of what is told of a layer, one behind the other.
const ranksOfLayer = 4

// layerFaults are of the layer i, and of its speed.
func layerFaults(i int) []ranked {
	var all []ranked
	rank := 10 + ranksOfLayer*i
	layerIs := func(l api.Layer, told api.Errno) {
		all = append(all, ranked{fault{"layer", func(a *asked) { a.s.Net[i] = l }, told}, rank, rank})
	}
	layerIs(api.Layer{Kind: 9}, api.ErrRange)
	layerIs(api.Layer{Kind: api.Scale, W: of(1, 1, top+1)}, api.ErrRange)
	layerIs(api.Layer{Kind: api.Relu, B: of(1, 1, 1)}, api.ErrShape)
	for p := range 2 {
		speedIs := func(at int, m api.Matrix, told api.Errno) {
			all = append(all, ranked{fault{"speed", func(a *asked) { *speedAt(a.s, i, p) = m }, told}, at, rank + 1 + p})
		}
		speedIs(rank+1+p, of(1, 1, top+1), api.ErrRange)
		speedIs(rank+1+p, of(25, 0), api.ErrRange)
		speedIs(rank+1+p, of(1, 1), api.ErrShape)
		speedIs(rank+3, full(5, 5, 1), api.ErrShape)
	}
	return all
}

// stateFaults are all that Check says.
func stateFaults() []ranked {
	all := []ranked{
		{fault{"Full", func(a *asked) { a.s.Net = append(a.s.Net, make([]api.Layer, 9)...) }, api.ErrFull}, 0, 0},
		{fault{"a speed too many", func(a *asked) { a.s.Speed = append(a.s.Speed, api.Grad{}) }, api.ErrShape}, 1, 1},
		{fault{"a speed too few", func(a *asked) { a.s.Speed = a.s.Speed[:3] }, api.ErrShape}, 1, 1},
		{fault{"Steps below 0", func(a *asked) { a.s.Steps = -1 }, api.ErrRange}, 2, 2},
		{fault{"Steps above", func(a *asked) { a.s.Steps = 1e9 + 1 }, api.ErrRange}, 2, 2},
	}
	for i := range small().s.Net {
		all = append(all, layerFaults(i)...)
	}
	return all
}

// everyFault has those of a state, and then all others.
func everyFault() []fault {
	var all []fault
	for _, f := range stateFaults() {
		all = append(all, f.fault)
	}
	return append(all, sayFaults()...)
}

func TestT1WhatIsToldFirst(t *testing.T) {
	for _, f := range stateFaults() {
		for _, s := range stateFaults() {
			if f.place == s.place || f.rank > s.rank {
				continue
			}
			a := small()
			s.spoil(&a)
			f.spoil(&a)
			name := fmt.Sprintf("%s and %s, ranks %d and %d", f.name, s.name, f.rank, s.rank)
			mustCheck(t, name, a.s, f.told)
			a.refuse(t, name, f.told)
			refuseAll(t, name+", no batches", a, nil, f.told)
		}
	}
}

// TestT1LayerCheckIsAsked: the wrong layers of these tests are wrong as they say.
func TestT1LayerCheckIsAsked(t *testing.T) {
	for _, w := range wrongLayers() {
		if told := plain.Told(layer.Check(w.l)); told != w.told {
			t.Errorf("%s: %v, want %v", w.name, told, w.told)
		}
	}
}
