package step

import (
	"fmt"
	"math"
	"math/rand"
	"slices"
	"testing"

	"galley/api"
	"galley/layer"
	"galley/mat"
	"galley/net"
	"galley/plain"
)

const top = api.Top

// of makes a matrix of what it is told, right or wrong.
func of(rows, cols int, cells ...int) api.Matrix {
	return api.Matrix{Rows: rows, Cols: cols, Cells: cells}
}

// full makes a matrix of which all cells are the same.
func full(rows, cols, x int) api.Matrix {
	return api.Matrix{Rows: rows, Cols: cols, Cells: slices.Repeat([]int{x}, rows*cols)}
}

// some makes a matrix of small numbers, or of such that sums come to an end.
func some(r *rand.Rand, rows, cols int) api.Matrix {
	a := full(rows, cols, 0)
	bound := []int{3, 1000, 1 << 20, top}[r.Intn(4)]
	for i := range a.Cells {
		a.Cells[i] = r.Intn(2*bound+1) - bound
	}
	return a
}

func linearOf(w, b api.Matrix) api.Layer { return api.Layer{Kind: api.Linear, W: w, B: b} }

func reluOf() api.Layer { return api.Layer{Kind: api.Relu} }

func scaleOf(x int) api.Layer { return api.Layer{Kind: api.Scale, W: of(1, 1, x)} }

func shiftOf(cells ...int) api.Layer {
	return api.Layer{Kind: api.Shift, B: of(1, len(cells), cells...)}
}

func netOf(l ...api.Layer) []api.Layer { return l }

func gradsOf(d ...api.Grad) []api.Grad { return d }

// numbers are Grads of one cell in W each.
func numbers(all ...int) []api.Grad {
	var grads []api.Grad
	for _, x := range all {
		grads = append(grads, api.Grad{W: of(1, 1, x)})
	}
	return grads
}

// scales are layers of one number each.
func scales(all ...int) []api.Layer {
	var n []api.Layer
	for _, x := range all {
		n = append(n, scaleOf(x))
	}
	return n
}

func rates(learn, keep int) api.Rates { return api.Rates{Learn: learn, Keep: keep} }

// someNet need not have columns that go together, as a step does not ask for it.
func someNet(r *rand.Rand, count int) []api.Layer {
	var n []api.Layer
	for range count {
		rows, cols := 1+r.Intn(api.MaxSide), 1+r.Intn(api.MaxSide)
		n = append(n, []api.Layer{
			linearOf(some(r, rows, cols), some(r, 1, cols)),
			reluOf(),
			{Kind: api.Scale, W: some(r, 1, 1)},
			{Kind: api.Shift, B: some(r, 1, cols)},
		}[r.Intn(4)])
	}
	return n
}

// someGrads have the shapes of the layers.
func someGrads(r *rand.Rand, n []api.Layer) []api.Grad {
	var grads []api.Grad
	for _, l := range n {
		grads = append(grads, api.Grad{W: some(r, l.W.Rows, l.W.Cols), B: some(r, l.B.Rows, l.B.Cols)})
	}
	return grads
}

// someRates are at the ends as often as between them.
func someRates(r *rand.Rand) api.Rates {
	one := func() int {
		return []int{0, 1, api.One - 1, api.One, r.Intn(api.One + 1), r.Intn(api.One + 1)}[r.Intn(6)]
	}
	return rates(one(), one())
}

func same(a, b api.Matrix) bool {
	return a.Rows == b.Rows && a.Cols == b.Cols && slices.Equal(a.Cells, b.Cells)
}

func sameNet(a, b []api.Layer) bool {
	return slices.EqualFunc(a, b, func(x, y api.Layer) bool {
		return x.Kind == y.Kind && same(x.W, y.W) && same(x.B, y.B)
	})
}

func sameGrads(a, b []api.Grad) bool {
	return slices.EqualFunc(a, b, func(x, y api.Grad) bool { return same(x.W, y.W) && same(x.B, y.B) })
}

// asked is what Do is handed.
type asked struct {
	n         []api.Layer
	speed, by []api.Grad
	r         api.Rates
}

func (a asked) must(t *testing.T, name string, n []api.Layer, speed []api.Grad, told api.Errno) {
	t.Helper()
	m, v, err := Do(a.n, a.speed, a.by, a.r)
	if !sameNet(m, n) || !sameGrads(v, speed) || plain.Told(err) != told {
		t.Errorf("%s: Do(%v, %v, %v, %v) =\n%v, %v, %v; want\n%v, %v, %v", name, a.n, a.speed, a.by, a.r, m, v, err, n, speed, told)
	}
}

// refuse holds that nothing stands beside the error.
func (a asked) refuse(t *testing.T, name string, told api.Errno) {
	t.Helper()
	a.must(t, name, nil, nil, told)
}

// small has each Kind, and right speeds and Grads; what it gives is its caller's to spoil.
func small() asked {
	return asked{
		n:     netOf(linearOf(of(2, 3, 1, 2, 3, 4, 5, 6), of(1, 3, 7, 8, 9)), reluOf(), scaleOf(100), shiftOf(-5, 5)),
		speed: gradsOf(api.Grad{W: of(2, 3, 10, 20, 30, -10, -20, -30), B: of(1, 3, 0, 1, -1)}, api.Grad{}, api.Grad{W: of(1, 1, -7)}, api.Grad{B: of(1, 2, 100, 3)}),
		by:    gradsOf(api.Grad{W: of(2, 3, 1, 1, 1, 1, 1, 1), B: of(1, 3, 6, -6, 0)}, api.Grad{}, api.Grad{W: of(1, 1, 2)}, api.Grad{B: of(1, 2, -51, 0)}),
		r:     rates(api.One/2, api.One/2),
	}
}

func TestP1EachKind(t *testing.T) {
	a := small()
	a.must(t, "halves",
		netOf(linearOf(of(2, 3, -2, -3, -5, 6, 10, 13), of(1, 3, 4, 11, 10)), reluOf(), scaleOf(101), shiftOf(-4, 5)),
		gradsOf(api.Grad{W: of(2, 3, 6, 11, 16, -4, -9, -14), B: of(1, 3, 6, -6, -1)}, api.Grad{}, api.Grad{W: of(1, 1, -2)}, api.Grad{B: of(1, 2, -1, 1)}), api.OK)
	a.r = rates(api.One, api.One)
	a.must(t, "wholes",
		netOf(linearOf(of(2, 3, -10, -19, -28, 13, 24, 35), of(1, 3, 1, 13, 10)), reluOf(), scaleOf(105), shiftOf(-54, 2)),
		gradsOf(api.Grad{W: of(2, 3, 11, 21, 31, -9, -19, -29), B: of(1, 3, 6, -5, -1)}, api.Grad{}, api.Grad{W: of(1, 1, -5)}, api.Grad{B: of(1, 2, 49, 3)}), api.OK)
}

// TestP1NumberByNumber: by hand, where it rounds and where it ends.
func TestP1NumberByNumber(t *testing.T) {
	for _, c := range []struct {
		name         string
		x, v, d      int
		learn, keep  int
		wantX, wantV int
	}{
		{"some", 256, 64, 512, 128, 128, -16, 544},
		{"the new speed turns, not the old one", 0, 1000, -1000, 256, 256, 0, 0},
		{"by is taken whole", 0, 0, 99, 256, 1, -99, 99},
		{"Learn is not on the speed", 50, 10, 10, 0, 256, 50, 20},
		{"Keep is not on by", 50, 10, 10, 256, 0, 40, 10},
		{"rates at 0", 5, 6, 7, 0, 0, 5, 7},
		{"rates at One", 5, 6, 7, 256, 256, -8, 13},
		{"rates at 1", 5, 256, 512, 1, 1, 3, 513},
		{"rates at 1, rounded down", 5, 255, 255, 1, 1, 5, 255},
		{"one less than One", 5, 2, 0, 255, 255, 5, 1},
		{"one less than One, below 0", 5, -1, 0, 255, 255, 6, -1},
		{"below 0, the least Keep", 0, -1, 0, 0, 1, 0, -1},
		{"below 0, the least Learn", 0, 0, -1, 1, 0, 1, -1},
		{"above 0, the least Learn", 0, 0, 1, 1, 0, 0, 1},
		{"a half below 0", 10, -3, 5, 128, 128, 9, 3},
		{"a half below 0, twice", 10, -3, 1, 128, 128, 11, -1},
		{"a half above 0", 10, 3, 0, 128, 128, 10, 1},
		{"rounded ahead of the sum", 0, 1, 1, 256, 128, -1, 1},
		{"whole, below 0", 10, -512, 0, 128, 128, 138, -256},
		{"the speed ends above", 0, top, 1, 256, 256, -top, top},
		{"the speed ends below", 0, -top, -1, 256, 256, top, -top},
		{"the speed ends, and then is halved", 0, top, top, 128, 256, -1073741823, top},
		{"the speed ends below, and then is halved", 0, -top, -top, 128, 256, 1073741824, -top},
		{"Top is halved", 0, top, 0, 0, 128, 0, 1073741823},
		{"-Top is halved", 0, -top, 0, 0, 128, 0, -1073741824},
		{"there and back", 77, top, -top, 256, 256, 77, 0},
		{"half of there and back", 0, top, -top, 0, 128, 0, -1073741824},
		{"the net ends below", -top, 0, 1, 256, 0, -top, 1},
		{"the net ends far below", -top, top, top, 256, 256, -top, top},
		{"the net ends above", top, 0, -1, 256, 0, top, -1},
		{"the net ends far above", top, -top, -top, 256, 256, top, -top},
		{"the net ends above by what is rounded", top, 0, -1, 1, 0, top, -1},
		{"Top less Top", top, top, 0, 256, 256, 0, top},
		{"-Top less -Top", -top, -top, 0, 256, 256, 0, -top},
		{"just to the end", -top + 5, 0, 5, 256, 0, -top, 5},
		{"nothing at the ends", top, 0, 0, 256, 256, top, 0},
	} {
		r := rates(c.learn, c.keep)
		asked{scales(c.x), numbers(c.v), numbers(c.d), r}.must(t, c.name, scales(c.wantX), numbers(c.wantV), api.OK)
		grad := func(x int) []api.Grad { return gradsOf(api.Grad{W: full(2, 3, x), B: full(1, 3, x)}) }
		layers := func(x int) []api.Layer { return netOf(linearOf(full(2, 3, x), full(1, 3, x))) }
		asked{layers(c.x), grad(c.v), grad(c.d), r}.must(t, c.name+", in a Linear", layers(c.wantX), grad(c.wantV), api.OK)
		bias := func(x int) []api.Grad { return gradsOf(api.Grad{B: full(1, 2, x)}) }
		asked{netOf(shiftOf(c.x, c.x)), bias(c.v), bias(c.d), r}.must(t, c.name+", in a Shift", netOf(shiftOf(c.wantX, c.wantX)), bias(c.wantV), api.OK)
	}
}

func TestP1NoLayers(t *testing.T) {
	for _, r := range []api.Rates{{}, rates(256, 0), rates(0, 256), rates(256, 256), rates(1, 255)} {
		asked{nil, nil, nil, r}.must(t, "nil", nil, nil, api.OK)
		asked{[]api.Layer{}, []api.Grad{}, []api.Grad{}, r}.must(t, "empty lists", nil, nil, api.OK)
	}
	asked{nil, numbers(1), nil, api.Rates{}}.refuse(t, "a speed", api.ErrShape)
	asked{nil, nil, numbers(1), api.Rates{}}.refuse(t, "a Grad", api.ErrShape)
	asked{nil, gradsOf(api.Grad{}), gradsOf(api.Grad{}), api.Rates{}}.refuse(t, "empty ones", api.ErrShape)
	asked{nil, nil, nil, rates(-1, 0)}.refuse(t, "Learn", api.ErrRange)
	asked{nil, nil, nil, rates(0, 257)}.refuse(t, "Keep", api.ErrRange)
}

func TestP1HowManyLayers(t *testing.T) {
	for count := range api.MaxLayers + 3 {
		n := slices.Repeat(scales(1000), count)
		speed, by := slices.Repeat(numbers(2), count), slices.Repeat(numbers(30), count)
		a := asked{n, speed, by, rates(256, 256)}
		if count > api.MaxLayers {
			a.refuse(t, "more", api.ErrFull)
			continue
		}
		a.must(t, fmt.Sprint(count), slices.Repeat(scales(968), count), slices.Repeat(numbers(32), count), api.OK)
	}
	many := slices.Repeat(scales(1), 1000)
	asked{many, slices.Repeat(numbers(1), 1000), slices.Repeat(numbers(1), 1000), api.Rates{}}.refuse(t, "many more", api.ErrFull)
}

// TestP1GreatestLayers: MaxLayers of MaxSide each way.
func TestP1GreatestLayers(t *testing.T) {
	layers := func(x int) []api.Layer {
		return slices.Repeat(netOf(linearOf(full(12, 12, x), full(1, 12, x+1))), api.MaxLayers)
	}
	grads := func(x int) []api.Grad {
		return slices.Repeat(gradsOf(api.Grad{W: full(12, 12, x), B: full(1, 12, x)}), api.MaxLayers)
	}
	asked{layers(50), grads(20), grads(7), rates(256, 128)}.must(t, "greatest", layers(33), grads(17), api.OK)
}

// TestP1ColumnsAreNotAsked: a step says nothing of whether they go together.
func TestP1ColumnsAreNotAsked(t *testing.T) {
	n := netOf(shiftOf(1), shiftOf(1, 2), linearOf(full(3, 4, 0), full(1, 4, 0)))
	asked{n, net.Zero(n), net.Zero(n), rates(256, 256)}.must(t, "columns", n, net.Zero(n), api.OK)
}

func TestP1Rates(t *testing.T) {
	a := small()
	for learn := -2; learn <= api.One+2; learn++ {
		for _, keep := range []int{-1, 0, 1, 128, 255, 256, 257} {
			for _, r := range []api.Rates{rates(learn, keep), rates(keep, learn)} {
				a.r = r
				if r.Learn >= 0 && r.Learn <= 256 && r.Keep >= 0 && r.Keep <= 256 {
					n, speed := doSlowly(a)
					a.must(t, "in range", n, speed, api.OK)
				} else {
					a.refuse(t, "out of range", api.ErrRange)
				}
			}
		}
	}
	for _, x := range []int{-256, 512, top, -top, top + 1, 1 << 32, 1<<32 + 128, math.MaxInt, math.MinInt} {
		a.r = rates(x, 0)
		a.refuse(t, "Learn", api.ErrRange)
		a.r = rates(0, x)
		a.refuse(t, "Keep", api.ErrRange)
		a.r = rates(x, x)
		a.refuse(t, "both", api.ErrRange)
	}
}

// TestP1CheckRates: alone it says what Do says of rates.
func TestP1CheckRates(t *testing.T) {
	edges := []int{math.MinInt, -1, 0, 1, 255, 256, 257, math.MaxInt}
	for _, learn := range edges {
		for _, keep := range edges {
			told := api.OK
			if learn < 0 || learn > 256 || keep < 0 || keep > 256 {
				told = api.ErrRange
			}
			if err := CheckRates(rates(learn, keep)); plain.Told(err) != told {
				t.Errorf("CheckRates(%d, %d) = %v, want %v", learn, keep, err, told)
			}
		}
	}
}

// TestP1WhatIsToldFirst: rates, then how many layers, then how many of the others, then what they are.
func TestP1WhatIsToldFirst(t *testing.T) {
	more := make([]api.Layer, api.MaxLayers+1)
	bad := gradsOf(api.Grad{W: of(-1, 2), B: of(1, 1, top+1)})
	asked{more, nil, bad, rates(257, 0)}.refuse(t, "Learn ahead of all", api.ErrRange)
	asked{more, bad, nil, rates(0, -1)}.refuse(t, "Keep ahead of all", api.ErrRange)
	asked{scales(1), nil, bad, rates(-1, -1)}.refuse(t, "rates ahead of how many", api.ErrRange)
	asked{netOf(api.Layer{Kind: api.Scale}), numbers(1), numbers(1), rates(0, 257)}.refuse(t, "rates ahead of the layer", api.ErrRange)
	asked{more, nil, bad, api.Rates{}}.refuse(t, "more, ahead of how many", api.ErrFull)
	asked{more, make([]api.Grad, 13), make([]api.Grad, 13), api.Rates{}}.refuse(t, "more, ahead of the layers", api.ErrFull)
	asked{netOf(api.Layer{Kind: 9}), nil, bad, api.Rates{}}.refuse(t, "no speed, ahead of the layer", api.ErrShape)
	asked{netOf(api.Layer{Kind: 9}), bad, nil, api.Rates{}}.refuse(t, "no Grad, ahead of the layer", api.ErrShape)
	asked{netOf(api.Layer{Kind: 9}), bad, append(bad, bad...), api.Rates{}}.refuse(t, "one Grad more, ahead of the layer", api.ErrShape)
}

func TestP1HowManySpeedsAndGrads(t *testing.T) {
	for layers := range api.MaxLayers + 2 {
		for speeds := range api.MaxLayers + 3 {
			for grads := range api.MaxLayers + 3 {
				told := api.OK
				if speeds != layers || grads != layers {
					told = api.ErrShape
				}
				if layers > api.MaxLayers {
					told = api.ErrFull
				}
				if told != api.OK {
					n := slices.Repeat(scales(1), layers)
					asked{n, slices.Repeat(numbers(1), speeds), slices.Repeat(numbers(1), grads), api.Rates{}}.refuse(t, "not as many", told)
					asked{make([]api.Layer, layers), make([]api.Grad, speeds), make([]api.Grad, grads), api.Rates{}}.refuse(t, "not as many, and no layers", told)
				}
			}
		}
	}
}

type refused struct {
	name string
	a    api.Matrix
	told api.Errno
}

// wrong has matrices that are wrong of themselves.
func wrong() []refused {
	return []refused{
		{"Rows below 0", of(-1, 2, 1, 2), api.ErrRange},
		{"Cols below 0", of(2, -1, 1, 2), api.ErrRange},
		{"both below 0, as many cells", of(-1, -2, 1, 2), api.ErrRange},
		{"Rows above MaxRows", full(api.MaxRows+1, 2, 0), api.ErrRange},
		{"Rows far below 0", of(math.MinInt, 2), api.ErrRange},
		{"Cols above MaxSide", full(1, api.MaxSide+1, 0), api.ErrRange},
		{"a product that wraps round", of(1<<32, 1<<32), api.ErrRange},
		{"a cell too few", of(2, 2, 1, 2, 3), api.ErrShape},
		{"a cell too many", of(1, 2, 1, 2, 3), api.ErrShape},
		{"a cell and no rows", of(0, 2, 1), api.ErrShape},
		{"a cell above Top", of(1, 2, 0, top+1), api.ErrRange},
		{"a cell below -Top", of(1, 2, -top-1, 0), api.ErrRange},
		{"a cell far below", of(2, 2, 0, 0, 0, math.MinInt), api.ErrRange},
	}
}

// Places of a matrix that is held against a layer's, in the order in which they are looked at.
const (
	speedW = iota
	speedB
	byW
	byB
	places
)

// at is where such a matrix stands.
func (a asked) at(i, place int) *api.Matrix {
	switch place {
	case speedW:
		return &a.speed[i].W
	case speedB:
		return &a.speed[i].B
	case byW:
		return &a.by[i].W
	}
	return &a.by[i].B
}

// spoilt is small, with another matrix at one place.
func spoilt(i, place int, m api.Matrix) asked {
	a := small()
	*a.at(i, place) = m
	return a
}

// cornerless has shapes of all sorts, those without rows or without columns among them.
func cornerless() []api.Matrix {
	return []api.Matrix{
		{}, of(0, 1), of(0, 2), of(0, 3), of(0, 12), of(1, 0), of(2, 0), of(24, 0), full(1, 1, 0), full(1, 2, 0), full(1, 3, 0),
		full(2, 1, 0), full(2, 2, 0), full(2, 3, 0), full(3, 1, 0), full(3, 2, 0), full(24, 12, 0),
	}
}

func TestP1WrongMatrices(t *testing.T) {
	for i := range small().n {
		for place := range places {
			name := fmt.Sprintf("layer %d, place %d, ", i, place)
			for _, c := range wrong() {
				spoilt(i, place, c.a).refuse(t, name+c.name, c.told)
			}
			own := *small().at(i, place)
			for _, m := range cornerless() {
				if m.Rows != own.Rows || m.Cols != own.Cols {
					spoilt(i, place, m).refuse(t, name+"not the shape", api.ErrShape)
				}
			}
		}
	}
}

// TestP1CellsAtTheEnds: -Top and Top may be, one beyond may not, wherever it stands.
func TestP1CellsAtTheEnds(t *testing.T) {
	for i := range small().n {
		for place := range places {
			for cell := range small().at(i, place).Cells {
				for _, x := range []int{-top, top} {
					a := small()
					a.at(i, place).Cells[cell] = x
					n, speed := doSlowly(a)
					a.must(t, "at the end", n, speed, api.OK)
				}
				for _, x := range []int{-top - 1, top + 1, math.MinInt, math.MaxInt} {
					a := small()
					a.at(i, place).Cells[cell] = x
					a.refuse(t, "beyond the end", api.ErrRange)
				}
			}
		}
	}
}

type refusedLayer struct {
	name string
	l    api.Layer
	told api.Errno
}

// wrongLayers has layers that are wrong of themselves.
func wrongLayers() []refusedLayer {
	return []refusedLayer{
		{"no Kind", api.Layer{}, api.ErrRange},
		{"no such Kind", api.Layer{Kind: 5}, api.ErrRange},
		{"a Kind below 0, and W", api.Layer{Kind: -1, W: of(1, 1)}, api.ErrRange},
		{"W of too few cells", linearOf(of(2, 2, 1), full(1, 2, 1)), api.ErrShape},
		{"W's cell", linearOf(of(2, 2, 0, 0, 0, top+1), full(1, 2, 1)), api.ErrRange},
		{"B's cell", api.Layer{Kind: api.Shift, B: of(1, 2, 0, -top-1)}, api.ErrRange},
		{"B's Cols", api.Layer{Kind: api.Shift, B: full(1, 13, 0)}, api.ErrRange},
		{"W of Relu", api.Layer{Kind: api.Relu, W: of(1, 1, 1)}, api.ErrShape},
		{"W of Relu without rows", api.Layer{Kind: api.Relu, W: of(0, 1)}, api.ErrShape},
		{"no W of Scale", api.Layer{Kind: api.Scale}, api.ErrShape},
		{"B of Linear", linearOf(full(2, 2, 1), full(1, 3, 1)), api.ErrShape},
		{"W of Linear without columns", linearOf(of(2, 0), of(1, 0)), api.ErrShape},
		{"W of Linear of too many rows", linearOf(full(13, 2, 1), full(1, 2, 1)), api.ErrShape},
	}
}

// TestP1WrongLayers: also where the speed and by have just its shapes.
func TestP1WrongLayers(t *testing.T) {
	for i := range small().n {
		for _, c := range wrongLayers() {
			a := small()
			a.n[i] = c.l
			a.refuse(t, c.name, c.told)
			a.speed[i], a.by[i] = api.Grad{W: c.l.W, B: c.l.B}, api.Grad{W: c.l.W, B: c.l.B}
			a.refuse(t, c.name+", all the same", c.told)
		}
	}
}

// fault is one thing that is wrong with a layer or what goes with it; what has
// the lower rank is told first.
type fault struct {
	rank, place int
	spoil       func(a asked, i int)
	told        api.Errno
}

const (
	atLayer   = -1
	rankShape = 1 + places
)

// faults has of each rank all that may be told.
func faults() []fault {
	var all []fault
	layerIs := func(l api.Layer, told api.Errno) {
		all = append(all, fault{0, atLayer, func(a asked, i int) { a.n[i] = l }, told})
	}
	layerIs(api.Layer{Kind: 9}, api.ErrRange)
	layerIs(api.Layer{Kind: api.Scale, W: of(1, 1, top+1)}, api.ErrRange)
	layerIs(api.Layer{Kind: api.Scale, W: of(1, 1)}, api.ErrShape)
	layerIs(api.Layer{Kind: api.Relu, B: of(1, 1, 1)}, api.ErrShape)
	for place := range places {
		matrixIs := func(rank int, m api.Matrix, told api.Errno) {
			all = append(all, fault{rank, place, func(a asked, i int) { *a.at(i, place) = m }, told})
		}
		matrixIs(1+place, of(1, 1, top+1), api.ErrRange)
		matrixIs(1+place, of(25, 0), api.ErrRange)
		matrixIs(1+place, of(1, 1), api.ErrShape)
		matrixIs(rankShape, full(5, 5, 1), api.ErrShape)
		matrixIs(rankShape, of(0, 5), api.ErrShape)
	}
	return all
}

// TestP1TwoFaultsOfOneLayer: the layer, then each matrix of itself, then all shapes.
func TestP1TwoFaultsOfOneLayer(t *testing.T) {
	for i := range small().n {
		for _, f := range faults() {
			for _, s := range faults() {
				if f.place == s.place || f.rank > s.rank {
					continue
				}
				a := small()
				f.spoil(a, i)
				s.spoil(a, i)
				a.refuse(t, fmt.Sprintf("layer %d, ranks %d and %d", i, f.rank, s.rank), f.told)
			}
		}
	}
}

// TestP1TwoFaultsOfTwoLayers: all that is said of one layer comes ahead of all that is said of the next.
func TestP1TwoFaultsOfTwoLayers(t *testing.T) {
	for first := range small().n {
		for second := first + 1; second < len(small().n); second++ {
			for _, f := range faults() {
				for _, s := range faults() {
					a := small()
					f.spoil(a, first)
					s.spoil(a, second)
					a.refuse(t, fmt.Sprintf("layers %d and %d, ranks %d and %d", first, second, f.rank, s.rank), f.told)
				}
			}
		}
	}
}

// TestP1TheLastLayerToo: what went well ahead of it does not stand beside the error.
func TestP1TheLastLayerToo(t *testing.T) {
	last := api.MaxLayers - 1
	for _, f := range faults() {
		n := slices.Repeat(scales(7), api.MaxLayers)
		a := asked{n, slices.Repeat(numbers(1), api.MaxLayers), slices.Repeat(numbers(2), api.MaxLayers), rates(256, 256)}
		f.spoil(a, last)
		a.refuse(t, "the last of MaxLayers", f.told)
	}
}

// doSlowly is P1's, once more, where nothing is wrong: whole numbers, shifted
// down by the 8 bits of One, which rounds down.
func doSlowly(a asked) ([]api.Layer, []api.Grad) {
	end := func(x int) int { return min(max(x, -top), top) }
	matrices := func(w, v, d api.Matrix) (api.Matrix, api.Matrix) {
		newW, newV := full(w.Rows, w.Cols, 0), full(w.Rows, w.Cols, 0)
		for i := range w.Cells {
			newV.Cells[i] = end(end(v.Cells[i]*a.r.Keep>>8) + d.Cells[i])
			newW.Cells[i] = end(w.Cells[i] - end(newV.Cells[i]*a.r.Learn>>8))
		}
		return newW, newV
	}
	var n []api.Layer
	var speed []api.Grad
	for i, l := range a.n {
		m := api.Layer{Kind: l.Kind}
		var v api.Grad
		m.W, v.W = matrices(l.W, a.speed[i].W, a.by[i].W)
		m.B, v.B = matrices(l.B, a.speed[i].B, a.by[i].B)
		n, speed = append(n, m), append(speed, v)
	}
	return n, speed
}

func TestP1ToTheLastBit(t *testing.T) {
	r := rand.New(rand.NewSource(1))
	for range 500 {
		n := someNet(r, r.Intn(api.MaxLayers+1))
		a := asked{n, someGrads(r, n), someGrads(r, n), someRates(r)}
		want, speed := doSlowly(a)
		a.must(t, "some", want, speed, api.OK)
	}
}

// TestP1StepByStep: what comes out may be handed in again, and again.
func TestP1StepByStep(t *testing.T) {
	r := rand.New(rand.NewSource(2))
	n := someNet(r, api.MaxLayers)
	a := asked{n, net.Zero(n), nil, api.Rates{}}
	for range 50 {
		a.by, a.r = someGrads(r, n), someRates(r)
		want, speed := doSlowly(a)
		a.must(t, "some step", want, speed, api.OK)
		a.n, a.speed, _ = Do(a.n, a.speed, a.by, a.r)
	}
}

// toldSlowly is what the chapter says of a layer, all of it in its order, of which the first holds.
func toldSlowly(l api.Layer, speed, by api.Grad) api.Errno {
	shape := func(m, like api.Matrix) error {
		if m.Rows != like.Rows || m.Cols != like.Cols {
			return api.ErrShape
		}
		return nil
	}
	for _, err := range []error{
		layer.Check(l), mat.Check(speed.W), mat.Check(speed.B), mat.Check(by.W), mat.Check(by.B),
		shape(speed.W, l.W), shape(speed.B, l.B), shape(by.W, l.W), shape(by.B, l.B),
	} {
		if err != nil {
			return plain.Told(err)
		}
	}
	return api.OK
}

func allGrads() []api.Grad {
	all := []api.Matrix{{}, of(0, 2), of(1, 1, 3), of(1, 2, -1, top), of(2, 2, 1, -top, 0, 4), full(13, 2, 1), of(1, 2, 1), of(1, 2, 0, top+1), of(-1, 2)}
	var grads []api.Grad
	for _, w := range all {
		for _, b := range all {
			grads = append(grads, api.Grad{W: w, B: b})
		}
	}
	return grads
}

// TestP1AllSorts asks what can be put together of doubtful ones, right and
// wrong, and holds it against the chapter's order of what is told.
func TestP1AllSorts(t *testing.T) {
	layers := netOf(linearOf(full(2, 2, 9), full(1, 2, -9)), reluOf(), scaleOf(-300), shiftOf(1, 2))
	for _, c := range wrongLayers() {
		layers = append(layers, c.l)
	}
	right := 0
	for _, l := range layers {
		for _, speed := range allGrads() {
			for _, by := range allGrads() {
				a := asked{netOf(l), gradsOf(speed), gradsOf(by), rates(200, 100)}
				if told := toldSlowly(l, speed, by); told != api.OK {
					a.refuse(t, "all sorts", told)
					continue
				}
				right++
				n, v := doSlowly(a)
				a.must(t, "all sorts", n, v, api.OK)
			}
		}
	}
	if right != 4 {
		t.Errorf("%d right ones, want one of each Kind", right)
	}
}

func TestP2WithoutLearnTheNetStays(t *testing.T) {
	r := rand.New(rand.NewSource(3))
	for range 200 {
		n := someNet(r, r.Intn(api.MaxLayers+1))
		a := asked{n, someGrads(r, n), someGrads(r, n), rates(0, someRates(r).Keep)}
		_, speed := doSlowly(a)
		a.must(t, "without Learn", n, speed, api.OK)
	}
}

func TestP2WithoutKeepWhatWasDoesNotMatter(t *testing.T) {
	r := rand.New(rand.NewSource(4))
	for range 200 {
		n := someNet(r, r.Intn(api.MaxLayers+1))
		by, learn := someGrads(r, n), someRates(r).Learn
		want, speed, err := Do(n, net.Zero(n), by, rates(learn, 0))
		if !sameGrads(speed, by) || err != nil {
			t.Fatalf("the new speed is %v, %v; want %v", speed, err, by)
		}
		asked{n, someGrads(r, n), by, rates(learn, 0)}.must(t, "without Keep", want, by, api.OK)
	}
}

// TestP2WhatIsWrongIsToldAllTheSame: a rate of 0 makes no wrong matrix right.
func TestP2WhatIsWrongIsToldAllTheSame(t *testing.T) {
	for _, f := range faults() {
		for i := range small().n {
			a := small()
			a.r = api.Rates{}
			f.spoil(a, i)
			a.refuse(t, "rates of 0", f.told)
		}
	}
}

func TestP2OfNothingAllStays(t *testing.T) {
	r := rand.New(rand.NewSource(5))
	for range 200 {
		n := someNet(r, r.Intn(api.MaxLayers+1))
		asked{n, net.Zero(n), net.Zero(n), someRates(r)}.must(t, "of nothing", n, net.Zero(n), api.OK)
	}
}
