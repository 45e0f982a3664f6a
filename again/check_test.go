package again

import (
	"fmt"
	"math"
	"math/rand"
	"slices"
	"testing"

	"galley/api"
)

// fault is one thing that is wrong.
type fault struct {
	name  string
	spoil func(a *asked)
	told  api.Errno
}

func everyFaults() []fault {
	var l []fault
	for _, every := range beyond() {
		l = append(l, fault{fmt.Sprint("every ", every), func(a *asked) { a.every = every }, api.ErrRange})
	}
	return l
}

func fullFaults() []fault {
	return []fault{
		{"13 layers", func(a *asked) { a.n = append(a.n, relus(9)...) }, api.ErrFull},
		{"13 layers, wrong ones", func(a *asked) { a.n = append(a.n, make([]api.Layer, 9)...) }, api.ErrFull},
		{"13 layers, a wrong one ahead", func(a *asked) { a.n = append(make([]api.Layer, 9), a.n...) }, api.ErrFull},
		{"1000 layers", func(a *asked) { a.n = append(a.n, relus(996)...) }, api.ErrFull},
	}
}

func xFaults() []fault {
	x := func(x api.Matrix) func(a *asked) { return func(a *asked) { a.x = x } }
	return []fault{
		{"x has Rows below 0", x(of(-1, 2, 1, 2)), api.ErrRange},
		{"x has Cols below 0", x(of(2, -1, 1, 2)), api.ErrRange},
		{"x has both below 0", x(of(-1, -2, 1, 2)), api.ErrRange},
		{"x has 25 rows", x(full(25, 2, 0)), api.ErrRange},
		{"x has 13 columns", x(full(1, 13, 0)), api.ErrRange},
		{"x has Rows far below 0", x(of(math.MinInt, 2)), api.ErrRange},
		{"x is a product that wraps round", x(of(1<<32, 1<<32)), api.ErrRange},
		{"x has a cell too few", x(of(2, 2, 1, 2, 3)), api.ErrShape},
		{"x has a cell too many", x(of(1, 2, 1, 2, 3)), api.ErrShape},
		{"x has a cell and no rows", x(of(0, 2, 1)), api.ErrShape},
		{"x has a cell above Top", x(of(1, 2, 0, top+1)), api.ErrRange},
		{"x has a cell below -Top", x(of(1, 2, -top-1, 0)), api.ErrRange},
		{"x has a cell far below", x(of(2, 2, 0, 0, 0, math.MinInt)), api.ErrRange},
	}
}

// layerFaults are wrong with a layer, or with what comes to it, layer by layer.
func layerFaults() []fault {
	swap := func(i int, l api.Layer) func(a *asked) { return func(a *asked) { a.n[i] = l } }
	return []fault{
		{"a first layer of no Kind", swap(0, api.Layer{}), api.ErrRange},
		{"a last layer of no Kind", swap(3, api.Layer{Kind: 5}), api.ErrRange},
		{"a Kind below 0", swap(1, api.Layer{Kind: -1, W: of(1, 1)}), api.ErrRange},
		{"W of too few cells", swap(0, linearOf(of(2, 3, 1), full(1, 3, 1))), api.ErrShape},
		{"W's cell", swap(2, scaleOf(top+1)), api.ErrRange},
		{"B's cell", swap(3, shiftOf(0, 0, -top-1)), api.ErrRange},
		{"B's columns", swap(3, api.Layer{Kind: api.Shift, B: full(1, 13, 0)}), api.ErrRange},
		{"W of Relu", swap(1, api.Layer{Kind: api.Relu, W: of(1, 1, 1)}), api.ErrShape},
		{"no W of Scale", swap(2, api.Layer{Kind: api.Scale}), api.ErrShape},
		{"B of Linear", swap(0, linearOf(full(2, 3, 1), full(1, 2, 1))), api.ErrShape},
		{"columns of the first layer", swap(0, linearOf(full(3, 3, 1), full(1, 3, 1))), api.ErrShape},
		{"columns of the second layer", swap(1, shiftOf(1, 2)), api.ErrShape},
		{"columns of the last layer", swap(3, shiftOf(1, 2, 3, 4)), api.ErrShape},
		{"columns, then a wrong layer", func(a *asked) { a.n[1], a.n[2] = shiftOf(1), api.Layer{Kind: 9} }, api.ErrShape},
		{"a wrong layer, then columns", func(a *asked) { a.n[1], a.n[2] = api.Layer{Kind: 9}, shiftOf(1) }, api.ErrRange},
		{"columns that x has not", func(a *asked) { a.x = full(2, 3, 1) }, api.ErrShape},
		{"x without columns", func(a *asked) { a.x = of(2, 0) }, api.ErrShape},
		{"x empty", func(a *asked) { a.x = api.Matrix{} }, api.ErrShape},
	}
}

// wantFaults are wrong with want alone.
func wantFaults() []fault {
	want := func(want api.Matrix) func(a *asked) { return func(a *asked) { a.want = want } }
	return []fault{
		{"want has Rows below 0", want(of(-1, 3)), api.ErrRange},
		{"want has Cols below 0", want(of(2, -3)), api.ErrRange},
		{"want has 25 rows", want(full(25, 3, 0)), api.ErrRange},
		{"want has 13 columns", want(full(2, 13, 0)), api.ErrRange},
		{"want is a product that wraps round", want(of(1<<32, 1<<32)), api.ErrRange},
		{"want has a cell too few", want(of(2, 3, 1, 2, 3, 4, 5)), api.ErrShape},
		{"want has no cells", want(of(2, 3)), api.ErrShape},
		{"want has a cell too many", want(of(2, 3, 1, 2, 3, 4, 5, 6, 7)), api.ErrShape},
		{"want has a cell above Top", want(of(2, 3, 1, 2, 3, 4, 5, top+1)), api.ErrRange},
		{"want has a cell below -Top", want(of(2, 3, -top-1, 2, 3, 4, 5, 6)), api.ErrRange},
		{"want has another shape, and a wrong cell", want(of(1, 2, math.MinInt, 0)), api.ErrRange},
		{"want has a row fewer", want(full(1, 3, 0)), api.ErrShape},
		{"want has a row more", want(full(3, 3, 0)), api.ErrShape},
		{"want has a column fewer", want(full(2, 2, 0)), api.ErrShape},
		{"want has a column more", want(full(2, 4, 0)), api.ErrShape},
		{"want is turned", want(full(3, 2, 0)), api.ErrShape},
		{"want is like x", want(full(2, 2, 0)), api.ErrShape},
		{"want is empty", want(api.Matrix{}), api.ErrShape},
		{"want has no rows", want(of(0, 3)), api.ErrShape},
		{"want has no columns", want(of(2, 0)), api.ErrShape},
	}
}

// rowFaults are more rows than a Linear goes back with.
func rowFaults() []fault {
	var l []fault
	for _, rows := range []int{13, 14, 24} {
		l = append(l, fault{fmt.Sprint(rows, " rows"), func(a *asked) {
			a.x, a.want = full(rows, 2, 1), full(rows, 3, 512)
		}, api.ErrRange})
	}
	return l
}

func everyFault() []fault {
	return slices.Concat(everyFaults(), fullFaults(), xFaults(), layerFaults(), wantFaults(), rowFaults())
}

func TestA1OneFault(t *testing.T) {
	for every := 1; every <= api.MaxLayers; every++ {
		a := small()
		a.every = every
		a.must(t, "nothing is wrong")
		for _, f := range everyFault() {
			a := small()
			a.every = every
			f.spoil(&a)
			a.refuse(t, f.name, f.told)
		}
	}
}

// TestA1WhatIsToldFirst: two things are wrong, of which neither takes back the other.
func TestA1WhatIsToldFirst(t *testing.T) {
	rest := slices.Concat(fullFaults(), xFaults(), layerFaults(), wantFaults(), rowFaults())
	// The last three of the layers' are of an x that is right by itself.
	layers := layerFaults()[:15]
	for _, pair := range [][2][]fault{
		{everyFaults(), rest},
		{fullFaults(), slices.Concat(xFaults(), wantFaults(), rowFaults())},
		{xFaults(), slices.Concat(layers, wantFaults())},
		{layerFaults(), wantFaults()},
		{layers, rowFaults()},
	} {
		for _, first := range pair[0] {
			for _, second := range pair[1] {
				a := small()
				second.spoil(&a)
				first.spoil(&a)
				a.refuse(t, first.name+", "+second.name, first.told)
			}
		}
	}
}

// TestA1WantAheadOfRows: what is wrong with want is told ahead of more rows than
// a Linear goes back with.
func TestA1WantAheadOfRows(t *testing.T) {
	for _, rows := range []int{13, 24} {
		for _, want := range []api.Matrix{{}, full(rows, 2, 0), full(rows-1, 3, 0), full(2, 3, 0), of(rows, 3)} {
			a := small()
			a.x, a.want = full(rows, 2, 1), want
			a.refuse(t, fmt.Sprint(rows, " rows"), api.ErrShape)
		}
	}
}

// TestA1RowsOfLinear: wherever a Linear stands it does not go back with more
// rows; nets without one do.
func TestA1RowsOfLinear(t *testing.T) {
	r := rand.New(rand.NewSource(7))
	for every := 1; every <= api.MaxLayers; every++ {
		for place := range api.MaxLayers {
			n := relus(api.MaxLayers)
			n[place] = linearOf(full(2, 2, 256), full(1, 2, 0))
			asked{n, full(12, 2, 1), full(12, 2, 1), every}.must(t, "12 rows")
			asked{n, full(13, 2, 1), full(13, 2, 512), every}.refuse(t, "13 rows", api.ErrRange)
			asked{n, full(24, 2, 1), full(24, 2, 512), every}.refuse(t, "24 rows", api.ErrRange)
			n[place] = reluOf()
			asked{n, full(24, 2, 1), full(24, 2, 2), every}.must(t, "24 rows, no Linear")
		}
		someAsked(r, 24, 12, "S C R S", every).must(t, "24 rows, no Linear")
	}
}

// TestA1NoLayersRefuse: x and want are looked at also where no layer asks them.
func TestA1NoLayersRefuse(t *testing.T) {
	for _, f := range xFaults() {
		for _, want := range []api.Matrix{{}, full(1, 2, 1), full(25, 1, 0), of(1, 1)} {
			a := asked{want: want, every: 1}
			f.spoil(&a)
			a.refuse(t, "no layers, "+f.name, f.told)
		}
	}
	for _, f := range wantFaults() {
		a := asked{x: full(2, 3, 1), every: 12}
		f.spoil(&a)
		a.refuse(t, "no layers, "+f.name, f.told)
	}
	for _, f := range everyFaults() {
		var a asked
		f.spoil(&a)
		a.refuse(t, "no layers, "+f.name, f.told)
	}
}

// TestA1FaultsByChance: whatever of it is wrong at once, it is what the words say first.
func TestA1FaultsByChance(t *testing.T) {
	r := rand.New(rand.NewSource(8))
	faults := everyFault()
	for range 20000 {
		a := small()
		a.every = 1 + r.Intn(api.MaxLayers)
		for range 2 + r.Intn(3) {
			f := faults[r.Intn(len(faults))]
			// Where there are more layers, others may stand at a place than are meant.
			if len(a.n) == 4 {
				f.spoil(&a)
			}
		}
		if told := toldOf(a); told == api.OK {
			a.must(t, "by chance")
		} else {
			a.refuse(t, "by chance", told)
		}
	}
}
