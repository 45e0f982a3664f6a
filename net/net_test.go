package net

import (
	"fmt"
	"math"
	"math/rand"
	"slices"
	"testing"

	"galley/api"
	"galley/layer"
	"galley/mat"
	"galley/plain"
)

const top = api.Top

// of makes a matrix of what it is told, right or wrong.
func of(rows, cols int, cells ...int) api.Matrix {
	return api.Matrix{Rows: rows, Cols: cols, Cells: cells}
}

// full makes a matrix of which all cells are the same.
func full(rows, cols, x int) api.Matrix {
	return api.Matrix{Rows: rows, Cols: cols, Cells: slices.Repeat([]int{x}, rows*cols)}
}

// some makes a matrix of small numbers, or of such that sums come to an end.
func some(r *rand.Rand, rows, cols int) api.Matrix {
	a := full(rows, cols, 0)
	bound := []int{3, 1000, 1 << 20, top}[r.Intn(4)]
	for i := range a.Cells {
		a.Cells[i] = r.Intn(2*bound+1) - bound
	}
	return a
}

func linearOf(w, b api.Matrix) api.Layer { return api.Layer{Kind: api.Linear, W: w, B: b} }

// wideOf is a Linear of so many columns to so many.
func wideOf(in, out int) api.Layer { return linearOf(full(in, out, 256), full(1, out, 1)) }

func reluOf() api.Layer { return api.Layer{Kind: api.Relu} }

func scaleOf(x int) api.Layer { return api.Layer{Kind: api.Scale, W: of(1, 1, x)} }

func shiftOf(cells ...int) api.Layer {
	return api.Layer{Kind: api.Shift, B: of(1, len(cells), cells...)}
}

func netOf(l ...api.Layer) []api.Layer { return l }

// relus is a net of so many layers with which nothing is wrong.
func relus(count int) []api.Layer { return slices.Repeat(netOf(reluOf()), count) }

// someNet is one of so many layers that takes so many columns, from 1 on.
func someNet(r *rand.Rand, count, cols int) []api.Layer {
	var n []api.Layer
	for range count {
		switch r.Intn(4) {
		case 0:
			out := 1 + r.Intn(api.MaxSide)
			n = append(n, linearOf(some(r, cols, out), some(r, 1, out)))
			cols = out
		case 1:
			n = append(n, reluOf())
		case 2:
			n = append(n, api.Layer{Kind: api.Scale, W: some(r, 1, 1)})
		case 3:
			n = append(n, api.Layer{Kind: api.Shift, B: some(r, 1, cols)})
		}
	}
	return n
}

func same(a, b api.Matrix) bool {
	return a.Rows == b.Rows && a.Cols == b.Cols && slices.Equal(a.Cells, b.Cells)
}

func sameAll(a, b []api.Matrix) bool { return slices.EqualFunc(a, b, same) }

func sameGrads(a, b []api.Grad) bool {
	return slices.EqualFunc(a, b, func(x, y api.Grad) bool { return same(x.W, y.W) && same(x.B, y.B) })
}

func mustCheck(t *testing.T, name string, n []api.Layer, in, want int, told api.Errno) {
	t.Helper()
	if got, err := Check(n, in); got != want || plain.Told(err) != told {
		t.Errorf("%s: Check(%v, %d) = %d, %v; want %d, %v", name, n, in, got, err, want, told)
	}
}

func mustGo(t *testing.T, name string, n []api.Layer, x api.Matrix, want []api.Matrix, told api.Errno) {
	t.Helper()
	if got, err := Go(n, x); !sameAll(got, want) || plain.Told(err) != told {
		t.Errorf("%s: Go(%v, %v) = %v, %v; want %v, %v", name, n, x, got, err, want, told)
	}
}

func mustBack(t *testing.T, name string, n []api.Layer, saw []api.Matrix, g, to api.Matrix, grads []api.Grad, told api.Errno) {
	t.Helper()
	got, d, err := Back(n, saw, g)
	if !same(got, to) || !sameGrads(d, grads) || plain.Told(err) != told {
		t.Errorf("%s: Back(%v, %v, %v) = %v, %v, %v; want %v, %v, %v", name, n, saw, g, got, d, err, to, grads, told)
	}
}

func refuseGo(t *testing.T, name string, n []api.Layer, x api.Matrix, told api.Errno) {
	t.Helper()
	mustGo(t, name, n, x, nil, told)
}

func refuseBack(t *testing.T, name string, n []api.Layer, saw []api.Matrix, g api.Matrix, told api.Errno) {
	t.Helper()
	mustBack(t, name, n, saw, g, api.Matrix{}, nil, told)
}

func mustGather(t *testing.T, name string, a, b, want []api.Grad, told api.Errno) {
	t.Helper()
	if got, err := Gather(a, b); !sameGrads(got, want) || plain.Told(err) != told {
		t.Errorf("%s: Gather(%v, %v) = %v, %v; want %v, %v", name, a, b, got, err, want, told)
	}
}

// sawOf is what Go tells where nothing is wrong.
func sawOf(t *testing.T, n []api.Layer, x api.Matrix) []api.Matrix {
	t.Helper()
	saw, err := Go(n, x)
	if err != nil {
		t.Fatalf("Go(%v, %v): %v", n, x, err)
	}
	return saw
}

type refused struct {
	name string
	a    api.Matrix
	told api.Errno
}

// wrong has matrices that are wrong of themselves.
func wrong() []refused {
	return []refused{
		{"Rows below 0", of(-1, 2, 1, 2), api.ErrRange},
		{"Cols below 0", of(2, -1, 1, 2), api.ErrRange},
		{"both below 0, as many cells", of(-1, -2, 1, 2), api.ErrRange},
		{"Rows above MaxRows", full(api.MaxRows+1, 2, 0), api.ErrRange},
		{"Rows far below 0", of(math.MinInt, 2), api.ErrRange},
		{"Cols above MaxSide", full(1, api.MaxSide+1, 0), api.ErrRange},
		{"a product that wraps round", of(1<<32, 1<<32), api.ErrRange},
		{"a cell too few", of(2, 2, 1, 2, 3), api.ErrShape},
		{"a cell too many", of(1, 2, 1, 2, 3), api.ErrShape},
		{"a cell and no rows", of(0, 2, 1), api.ErrShape},
		{"a cell above Top", of(1, 2, 0, top+1), api.ErrRange},
		{"a cell below -Top", of(1, 2, -top-1, 0), api.ErrRange},
		{"a cell far below", of(2, 2, 0, 0, 0, math.MinInt), api.ErrRange},
	}
}

type refusedLayer struct {
	name string
	l    api.Layer
	told api.Errno
}

// wrongLayers has layers that are wrong of themselves.
func wrongLayers() []refusedLayer {
	return []refusedLayer{
		{"no Kind", api.Layer{}, api.ErrRange},
		{"no such Kind", api.Layer{Kind: 5}, api.ErrRange},
		{"a Kind below 0, and W", api.Layer{Kind: -1, W: of(1, 1)}, api.ErrRange},
		{"W of too few cells", linearOf(of(2, 2, 1), full(1, 2, 1)), api.ErrShape},
		{"W's cell", linearOf(of(2, 2, 0, 0, 0, top+1), full(1, 2, 1)), api.ErrRange},
		{"B's cell", api.Layer{Kind: api.Shift, B: of(1, 2, 0, -top-1)}, api.ErrRange},
		{"B's Cols", api.Layer{Kind: api.Shift, B: full(1, 13, 0)}, api.ErrRange},
		{"W of Relu", api.Layer{Kind: api.Relu, W: of(1, 1, 1)}, api.ErrShape},
		{"no W of Scale", api.Layer{Kind: api.Scale}, api.ErrShape},
		{"B of Linear", linearOf(full(2, 2, 1), full(1, 3, 1)), api.ErrShape},
	}
}

// otherThan gives an error that is not this one, to be told if the order is wrong.
func otherThan(told api.Errno) refusedLayer {
	if told == api.ErrRange {
		return refusedLayer{"B of Relu", api.Layer{Kind: api.Relu, B: of(1, 1, 1)}, api.ErrShape}
	}
	return refusedLayer{"no such Kind", api.Layer{Kind: 6}, api.ErrRange}
}

func TestN1Check(t *testing.T) {
	greatest := netOf(wideOf(1, 12), wideOf(12, 12), reluOf(), wideOf(12, 1))
	for _, c := range []struct {
		name     string
		n        []api.Layer
		in, want int
	}{
		{"one layer that keeps", netOf(reluOf()), 5, 5},
		{"one layer that keeps none", netOf(scaleOf(7)), 0, 0},
		{"one layer that keeps MaxSide", netOf(scaleOf(-7)), 12, 12},
		{"one that does not", netOf(wideOf(2, 3)), 2, 3},
		{"one that must have so many", netOf(shiftOf(1, 2, 3)), 3, 3},
		{"one behind the other", netOf(wideOf(2, 3), reluOf(), shiftOf(1, 2, 3), scaleOf(5), wideOf(3, 1)), 2, 1},
		{"wide and narrow", greatest, 1, 1},
		{"MaxLayers", relus(api.MaxLayers), 4, 4},
		{"MaxLayers that do not keep", slices.Repeat(netOf(wideOf(3, 7), wideOf(7, 3)), 6), 3, 3},
		{"MaxLayers, an odd way", slices.Concat(netOf(wideOf(1, 2), wideOf(2, 3)), relus(9), netOf(wideOf(3, 11))), 1, 11},
	} {
		mustCheck(t, c.name, c.n, c.in, c.want, api.OK)
	}
}

func TestN1CheckOfNoLayers(t *testing.T) {
	for in := range api.MaxSide + 1 {
		mustCheck(t, "nil", nil, in, in, api.OK)
		mustCheck(t, "an empty list", []api.Layer{}, in, in, api.OK)
	}
	for _, in := range []int{-1, -12, 13, 24, 1 << 32, math.MinInt, math.MaxInt} {
		mustCheck(t, "nil", nil, in, 0, api.ErrRange)
		mustCheck(t, "an empty list", []api.Layer{}, in, 0, api.ErrRange)
	}
}

func TestN1CheckRefuses(t *testing.T) {
	for _, c := range []struct {
		name string
		n    []api.Layer
		in   int
		told api.Errno
	}{
		{"in below 0", netOf(reluOf()), -1, api.ErrRange},
		{"in above MaxSide", netOf(reluOf()), 13, api.ErrRange},
		{"in far above", netOf(wideOf(2, 3), shiftOf(1, 2, 3)), math.MaxInt, api.ErrRange},
		{"in far below", netOf(shiftOf(1, 2, 3)), math.MinInt, api.ErrRange},
		{"in, then columns of the next", netOf(wideOf(2, 3), shiftOf(1, 2)), 13, api.ErrRange},
		{"columns of the first", netOf(wideOf(2, 3)), 3, api.ErrShape},
		{"no columns", netOf(reluOf(), shiftOf(1)), 0, api.ErrShape},
		{"columns of the second", netOf(wideOf(2, 3), wideOf(2, 3)), 2, api.ErrShape},
		{"columns of the last", netOf(wideOf(2, 3), reluOf(), scaleOf(1), shiftOf(1, 2)), 2, api.ErrShape},
		{"columns that go together but for in", netOf(wideOf(3, 2), wideOf(2, 3)), 2, api.ErrShape},
		{"columns, then a wrong layer", netOf(shiftOf(1, 2), api.Layer{Kind: 9}), 3, api.ErrShape},
		{"a wrong layer, then columns", netOf(api.Layer{Kind: 9}, shiftOf(1, 2), shiftOf(1)), 3, api.ErrRange},
		{"a wrong layer ahead of in", netOf(api.Layer{Kind: api.Scale}), 13, api.ErrShape},
		{"in ahead of a wrong layer that is second", netOf(reluOf(), api.Layer{Kind: api.Scale}), -1, api.ErrRange},
		{"one more", relus(api.MaxLayers + 1), 2, api.ErrFull},
		{"many more", relus(1000), 2, api.ErrFull},
		{"one more, and in", relus(api.MaxLayers + 1), -1, api.ErrFull},
		{"one more, and wrong layers", make([]api.Layer, api.MaxLayers+1), 2, api.ErrFull},
		{"one more, and columns", slices.Repeat(netOf(wideOf(2, 3)), api.MaxLayers+1), 2, api.ErrFull},
		{"just the last one wrong", append(relus(api.MaxLayers-1), api.Layer{}), 2, api.ErrRange},
	} {
		mustCheck(t, c.name, c.n, c.in, 0, c.told)
	}
}

// TestN1LayerByLayer: of two wrong layers the one ahead is told, wherever they stand.
func TestN1LayerByLayer(t *testing.T) {
	for _, c := range wrongLayers() {
		other := otherThan(c.told)
		for first := range api.MaxLayers {
			n := relus(api.MaxLayers)
			n[first] = c.l
			mustCheck(t, c.name, n, 2, 0, c.told)
			refuseGo(t, c.name, n, full(1, 2, 1), c.told)
			refuseBack(t, c.name, n, slices.Repeat([]api.Matrix{full(1, 2, 1)}, 13), full(1, 2, 1), c.told)
			for second := first + 1; second < api.MaxLayers; second++ {
				n[second] = other.l
				mustCheck(t, c.name, n, 2, 0, c.told)
				refuseGo(t, c.name, n, full(1, 2, 1), c.told)
				refuseBack(t, c.name, n, slices.Repeat([]api.Matrix{full(1, 2, 1)}, 13), full(1, 2, 1), other.told)
				n[second] = reluOf()
			}
		}
	}
}

// small has a layer of each Kind: what it does was reckoned by hand.
func small() []api.Layer {
	return netOf(linearOf(of(2, 3, 256, 0, -256, 0, 512, 128), of(1, 3, 1, 2, 3)), reluOf(), scaleOf(128), shiftOf(1, -2, 3))
}

func smallSaw() []api.Matrix {
	return []api.Matrix{
		of(2, 2, 10, 20, 30, 40),
		of(2, 3, 11, 42, 3, 31, 82, -7),
		of(2, 3, 11, 42, 3, 31, 82, 0),
		of(2, 3, 5, 21, 1, 15, 41, 0),
		of(2, 3, 6, 19, 4, 16, 39, 3),
	}
}

func TestN2Go(t *testing.T) {
	x := of(1, 2, -5, 5)
	for _, c := range []struct {
		name string
		n    []api.Layer
		want []api.Matrix
	}{
		{"each Kind", small(), smallSaw()},
		{"no layers", nil, []api.Matrix{x}},
		{"an empty list", []api.Layer{}, []api.Matrix{x}},
		{"one layer", netOf(reluOf()), []api.Matrix{x, of(1, 2, 0, 5)}},
		{"two", netOf(reluOf(), scaleOf(512)), []api.Matrix{x, of(1, 2, 0, 5), of(1, 2, 0, 10)}},
		{"two, the other way", netOf(scaleOf(-512), reluOf()), []api.Matrix{x, of(1, 2, 10, -10), of(1, 2, 10, 0)}},
		{"no layers, empty", nil, []api.Matrix{{}}},
		{"no layers, greatest", nil, []api.Matrix{full(24, 12, -top)}},
		{"empty", netOf(reluOf(), scaleOf(5)), []api.Matrix{{}, {}, {}}},
		{"no rows", netOf(wideOf(2, 3), shiftOf(1, 2, 3)), []api.Matrix{of(0, 2), of(0, 3), of(0, 3)}},
		{"no columns", netOf(scaleOf(5), reluOf()), []api.Matrix{of(24, 0), of(24, 0), of(24, 0)}},
		{"MaxRows", netOf(wideOf(12, 1), wideOf(1, 12)), []api.Matrix{full(24, 12, 2), full(24, 1, 25), full(24, 12, 26)}},
		{"MaxRows at the ends", netOf(wideOf(12, 12), shiftOf(full(1, 12, -top).Cells...)),
			[]api.Matrix{full(24, 12, top), full(24, 12, top), full(24, 12, 0)}},
		{"each layer ends of itself", netOf(shiftOf(1, -1), shiftOf(-1, 1)),
			[]api.Matrix{of(1, 2, top, -top), of(1, 2, top, -top), of(1, 2, top-1, -top+1)}},
		{"a product at the end, then the half", netOf(scaleOf(512), scaleOf(128)),
			[]api.Matrix{of(1, 2, top, -top), of(1, 2, top, -top), of(1, 2, 1<<30-1, -1<<30)}},
		{"rounded down layer by layer", netOf(scaleOf(128), scaleOf(128), scaleOf(512)),
			[]api.Matrix{of(1, 2, 3, -3), of(1, 2, 1, -2), of(1, 2, 0, -1), of(1, 2, 0, -2)}},
		{"sums in order", netOf(linearOf(full(3, 1, 256), of(1, 1, 5)), scaleOf(-top)),
			[]api.Matrix{of(2, 3, top, top, -top, -top, top, top), of(2, 1, 5, top), of(2, 1, -41943040, -top)}},
	} {
		mustGo(t, c.name, c.n, c.want[0], c.want, api.OK)
	}
}

func TestN2GoOfMaxLayers(t *testing.T) {
	var want []api.Matrix
	for i := range api.MaxLayers + 1 {
		want = append(want, of(2, 1, i, 100+i))
	}
	n := slices.Repeat(netOf(shiftOf(1)), api.MaxLayers)
	mustGo(t, "MaxLayers", n, of(2, 1, 0, 100), want, api.OK)
	refuseGo(t, "one more", append(n, shiftOf(1)), of(2, 1, 0, 100), api.ErrFull)
}

// TestN2GoRefuses: that there are more, then x, then layer by layer.
func TestN2GoRefuses(t *testing.T) {
	for _, c := range wrong() {
		refuseGo(t, c.name, nil, c.a, c.told)
		refuseGo(t, c.name, small(), c.a, c.told)
		refuseGo(t, c.name+", one more", relus(api.MaxLayers+1), c.a, api.ErrFull)
		refuseGo(t, c.name+", then a layer", netOf(otherThan(c.told).l, reluOf()), c.a, c.told)
		refuseGo(t, c.name+", then columns", netOf(shiftOf(1, 2, 3, 4, 5)), c.a, c.told)
	}
	one := full(1, 2, 1)
	refuseGo(t, "one more, wrong layers", make([]api.Layer, api.MaxLayers+1), one, api.ErrFull)
	refuseGo(t, "columns of the first", netOf(wideOf(3, 2)), one, api.ErrShape)
	refuseGo(t, "columns of the second", netOf(wideOf(2, 3), wideOf(2, 3)), one, api.ErrShape)
	refuseGo(t, "columns of the last", netOf(wideOf(2, 3), reluOf(), scaleOf(1), shiftOf(1, 2)), one, api.ErrShape)
	refuseGo(t, "columns without rows", netOf(reluOf(), shiftOf(1, 2, 3)), of(0, 2), api.ErrShape)
	refuseGo(t, "rows without columns", netOf(reluOf(), shiftOf(1)), of(5, 0), api.ErrShape)
	refuseGo(t, "columns, then a wrong layer", netOf(shiftOf(1), api.Layer{Kind: 9}), one, api.ErrShape)
	refuseGo(t, "a wrong layer, then columns", netOf(reluOf(), api.Layer{Kind: 9}, shiftOf(1)), one, api.ErrRange)
}

func TestN2Back(t *testing.T) {
	no := api.Grad{}
	chapters := netOf(reluOf(), scaleOf(512))
	ends := netOf(shiftOf(1, -1), scaleOf(-top))
	for _, c := range []struct {
		name  string
		n     []api.Layer
		x     api.Matrix
		g, to api.Matrix
		grads []api.Grad
	}{
		{"each Kind", small(), of(2, 2, 10, 20, 30, 40), of(2, 3, 256, -256, 512, 2, 4, 6), of(2, 2, -128, -128, 1, 4),
			[]api.Grad{{W: of(2, 3, 5, -5, 10, 10, -10, 20), B: of(1, 3, 129, -126, 256)}, no, {W: of(1, 1, -24)}, {B: of(1, 3, 258, -252, 518)}}},
		{"one layer", netOf(reluOf()), of(1, 2, -5, 5), of(1, 2, 8, 9), of(1, 2, 0, 9), []api.Grad{no}},
		{"two", chapters, of(1, 2, -5, 5), of(1, 2, 256, 256), of(1, 2, 0, 512), []api.Grad{no, {W: of(1, 1, 5)}}},
		{"no rows", netOf(wideOf(2, 3), scaleOf(7), shiftOf(1, 2, 3)), of(0, 2), of(0, 3), of(0, 2),
			[]api.Grad{{W: full(2, 3, 0), B: full(1, 3, 0)}, {W: of(1, 1, 0)}, {B: full(1, 3, 0)}}},
		{"no columns", netOf(scaleOf(7), reluOf()), of(24, 0), of(24, 0), of(24, 0), []api.Grad{{W: of(1, 1, 0)}, no}},
		{"empty", netOf(scaleOf(7), reluOf()), api.Matrix{}, api.Matrix{}, api.Matrix{}, []api.Grad{{W: of(1, 1, 0)}, no}},
		{"at the ends", ends, of(1, 2, top, -top), of(1, 2, top, top), of(1, 2, -top, -top),
			[]api.Grad{{B: of(1, 2, -top, -top)}, {W: of(1, 1, 0)}}},
		{"ended on the way", netOf(scaleOf(128), scaleOf(512)), of(1, 1, 256), of(1, 1, top), of(1, 1, 1<<30-1),
			[]api.Grad{{W: of(1, 1, top)}, {W: of(1, 1, 1<<30-1)}}},
		{"rounded down on the way", netOf(scaleOf(512), scaleOf(128)), of(1, 1, 256), of(1, 1, -3), of(1, 1, -4),
			[]api.Grad{{W: of(1, 1, -2)}, {W: of(1, 1, -6)}}},
		{"MaxRows without Linear", netOf(reluOf(), scaleOf(512), shiftOf(1)), full(24, 1, 256), full(24, 1, 2), full(24, 1, 4),
			[]api.Grad{no, {W: of(1, 1, 48)}, {B: of(1, 1, 48)}}},
		{"MaxSide rows of Linear", netOf(wideOf(12, 12), reluOf()), full(12, 12, 256), full(12, 12, 2), full(12, 12, 24),
			[]api.Grad{{W: full(12, 12, 24), B: full(1, 12, 24)}, no}},
	} {
		mustBack(t, c.name, c.n, sawOf(t, c.n, c.x), c.g, c.to, c.grads, api.OK)
	}
}

// TestN2BackOfNoLayers: what comes back goes back, and what was seen is not asked.
func TestN2BackOfNoLayers(t *testing.T) {
	saws := []api.Matrix{{}, of(1, 2, 3, 4), of(-1, 5), of(1, 1), of(1, 1, top+1)}
	for _, saw := range saws {
		one := []api.Matrix{saw}
		for _, g := range []api.Matrix{{}, of(0, 3), of(3, 0), of(1, 2, -top, top), full(24, 12, 7)} {
			mustBack(t, "no layers", nil, one, g, g, nil, api.OK)
			mustBack(t, "an empty list", []api.Layer{}, one, g, g, nil, api.OK)
		}
		for _, c := range wrong() {
			refuseBack(t, c.name, nil, one, c.a, c.told)
		}
	}
	for _, c := range wrong() {
		refuseBack(t, "none seen", nil, nil, c.a, api.ErrShape)
		refuseBack(t, "two seen", nil, slices.Repeat(saws[:1], 2), c.a, api.ErrShape)
	}
}

func TestN2BackOfMaxLayers(t *testing.T) {
	n := slices.Repeat(netOf(scaleOf(512)), api.MaxLayers)
	saw := []api.Matrix{of(1, 1, 256)}
	var grads []api.Grad
	for i := range api.MaxLayers {
		saw = append(saw, of(1, 1, 512<<i))
		grads = append(grads, api.Grad{W: of(1, 1, 3<<11)})
	}
	mustGo(t, "MaxLayers", n, saw[0], saw, api.OK)
	mustBack(t, "MaxLayers", n, saw, of(1, 1, 3), of(1, 1, 3<<12), grads, api.OK)
	more := append(n, scaleOf(512))
	refuseBack(t, "one more", more, append(saw, of(1, 1, 1)), of(1, 1, 3), api.ErrFull)
	refuseBack(t, "one more, not as many seen", more, saw, of(1, 1, 3), api.ErrFull)
	refuseBack(t, "one more, none seen, g", more, nil, of(1, 1), api.ErrFull)
	refuseBack(t, "one more, wrong layers, g", make([]api.Layer, 13), make([]api.Matrix, 14), of(1, 1, top+1), api.ErrFull)
}

// TestN2BackGoesByWhatWasSeen: not by what would come of the first one anew.
func TestN2BackGoesByWhatWasSeen(t *testing.T) {
	n := netOf(reluOf(), scaleOf(512), reluOf())
	saw := []api.Matrix{of(1, 2, 1, -1), of(1, 2, 256, 512), of(1, 2, -1, 1), {}}
	mustBack(t, "seen", n, saw, of(1, 2, 10, 20), of(1, 2, 0, 0), []api.Grad{{}, {W: of(1, 1, 40)}, {}}, api.OK)
	saw[0] = of(1, 2, -1, 1)
	mustBack(t, "seen", n, saw, of(1, 2, 10, 20), of(1, 2, 0, 40), []api.Grad{{}, {W: of(1, 1, 40)}, {}}, api.OK)
	narrow := netOf(wideOf(2, 1), wideOf(1, 3))
	refuseBack(t, "rows that were seen differ", narrow, []api.Matrix{full(2, 2, 1), full(1, 1, 1), {}}, full(1, 3, 1), api.ErrShape)
}

// TestN2BackDoesNotAskTheLast: what stands behind the last layer may be anything.
func TestN2BackDoesNotAskTheLast(t *testing.T) {
	g, to := of(2, 3, 256, -256, 512, 2, 4, 6), of(2, 2, -128, -128, 1, 4)
	_, grads, err := Back(small(), smallSaw(), g)
	if err != nil {
		t.Fatal(err)
	}
	lasts := []api.Matrix{{}, full(5, 5, 1)}
	for _, c := range wrong() {
		lasts = append(lasts, c.a)
	}
	for _, last := range lasts {
		saw := smallSaw()
		saw[4] = last
		mustBack(t, "the last one", small(), saw, g, to, grads, api.OK)
	}
}

func TestN2BackRefusesHowManyWereSeen(t *testing.T) {
	for layers := range api.MaxLayers + 1 {
		for seen := range api.MaxLayers + 4 {
			if seen == layers+1 {
				continue
			}
			saw := slices.Repeat([]api.Matrix{full(1, 2, 1)}, seen)
			refuseBack(t, "not as many", relus(layers), saw, full(1, 2, 1), api.ErrShape)
			refuseBack(t, "not as many, then layers", make([]api.Layer, layers), saw, full(1, 2, 1), api.ErrShape)
			refuseBack(t, "not as many, then g", relus(layers), saw, of(1, 2, 0, top+1), api.ErrShape)
			refuseBack(t, "not as many, then what was seen", relus(layers), make([]api.Matrix, seen), of(-1, 2), api.ErrShape)
		}
	}
	refuseBack(t, "nil", relus(2), nil, full(1, 2, 1), api.ErrShape)
}

// TestN2BackRefusesWhatWasSeen: one that is wrong of itself, or does not go with
// its layer or with what comes back to it, ahead of each layer.
func TestN2BackRefusesWhatWasSeen(t *testing.T) {
	g := full(2, 3, 1)
	for i := range 4 {
		for _, c := range wrong() {
			saw := smallSaw()
			saw[i] = c.a
			refuseBack(t, fmt.Sprint(c.name, ", seen at ", i), small(), saw, g, c.told)
		}
		for _, a := range []api.Matrix{{}, of(2, 0), of(0, 3), full(2, 4, 1), full(1, 3, 1), full(3, 3, 1)} {
			saw := smallSaw()
			saw[i] = a
			refuseBack(t, fmt.Sprint("does not go, seen at ", i), small(), saw, g, api.ErrShape)
		}
	}
}

// TestN2BackRefusesG: the last layer alone looks at it, behind what was seen ahead of that one.
func TestN2BackRefusesG(t *testing.T) {
	shape, reach := of(2, 3, 1), of(2, 3, 0, 0, 0, 0, 0, top+1)
	for _, c := range wrong() {
		refuseBack(t, "g: "+c.name, small(), smallSaw(), c.a, c.told)
	}
	for _, a := range []api.Matrix{{}, of(2, 0), of(0, 3), full(2, 2, 1), full(2, 4, 1), full(1, 3, 1), full(3, 2, 1)} {
		refuseBack(t, "g is not of the shape", small(), smallSaw(), a, api.ErrShape)
	}
	for i := range 3 {
		saw := smallSaw()
		saw[i] = shape
		refuseBack(t, fmt.Sprint("g ahead of what was seen at ", i), small(), saw, reach, api.ErrRange)
		saw[i] = reach
		refuseBack(t, fmt.Sprint("g ahead of what was seen at ", i), small(), saw, shape, api.ErrShape)
	}
	saw := smallSaw()
	saw[3] = shape
	refuseBack(t, "g behind what was seen ahead of the last layer", small(), saw, reach, api.ErrShape)
	saw[3] = reach
	refuseBack(t, "g behind what was seen ahead of the last layer", small(), saw, shape, api.ErrRange)
}

// TestN2BackFromTheLastOn: of two that are wrong the one behind is told.
func TestN2BackFromTheLastOn(t *testing.T) {
	shape, reach := of(1, 2, 1), of(1, 2, 0, top+1)
	one := full(1, 2, 1)
	for first := range api.MaxLayers {
		for second := first + 1; second < api.MaxLayers; second++ {
			saw := slices.Repeat([]api.Matrix{one}, 13)
			saw[first], saw[second] = shape, reach
			refuseBack(t, "two seen", relus(12), saw, one, api.ErrRange)
			saw[first], saw[second] = reach, shape
			refuseBack(t, "two seen", relus(12), saw, one, api.ErrShape)
			n := relus(12)
			n[first], saw[first], saw[second] = api.Layer{Kind: 9}, one, shape
			refuseBack(t, "a layer, and one seen behind it", n, saw, one, api.ErrShape)
			n[second] = api.Layer{Kind: 9}
			refuseBack(t, "a layer ahead of what it saw", n, saw, one, api.ErrRange)
		}
	}
	last := append(relus(2), api.Layer{Kind: 9})
	refuseBack(t, "the last layer ahead of g", last, slices.Repeat([]api.Matrix{one}, 4), shape, api.ErrRange)
	first := append(netOf(api.Layer{Kind: 9}), relus(2)...)
	refuseBack(t, "g ahead of the first layer", first, slices.Repeat([]api.Matrix{one}, 4), shape, api.ErrShape)
}

// TestN2BackOfManyRows: Linear takes but MaxSide rows on its way back, wherever it stands.
func TestN2BackOfManyRows(t *testing.T) {
	for rows := 11; rows <= api.MaxRows; rows++ {
		for i := range 4 {
			n := slices.Insert(relus(3), i, wideOf(2, 2))
			saw := sawOf(t, n, full(rows, 2, 256))
			if rows > api.MaxSide {
				refuseBack(t, "more rows", n, saw, full(rows, 2, 1), api.ErrRange)
				refuseBack(t, "more rows, and not the shape", n, saw, full(rows, 3, 1), api.ErrShape)
				continue
			}
			to, grads, err := Back(n, saw, full(rows, 2, 1))
			if !same(to, full(rows, 2, 2)) || len(grads) != 4 || !same(grads[i].B, full(1, 2, rows)) || err != nil {
				t.Errorf("Back of %d rows, Linear at %d: %v, %v, %v", rows, i, to, grads, err)
			}
		}
	}
}

// goSlowly and backSlowly are N2's, once more: the first layer and the rest,
// the last layer and the rest. They are asked of at most MaxLayers.
func goSlowly(n []api.Layer, x api.Matrix) ([]api.Matrix, error) {
	if len(n) == 0 || mat.Check(x) != nil {
		return []api.Matrix{x}, mat.Check(x)
	}
	y, err := layer.Go(n[0], x)
	if err != nil {
		return nil, err
	}
	rest, err := goSlowly(n[1:], y)
	return append([]api.Matrix{x}, rest...), err
}

func backSlowly(n []api.Layer, saw []api.Matrix, g api.Matrix) (api.Matrix, []api.Grad, error) {
	last := len(n) - 1
	if len(saw) != last+2 {
		return api.Matrix{}, nil, api.ErrShape
	}
	if last < 0 {
		return g, nil, mat.Check(g)
	}
	to, grad, err := layer.Back(n[last], saw[last], g)
	if err != nil {
		return api.Matrix{}, nil, err
	}
	to, grads, err := backSlowly(n[:last], saw[:last+1], to)
	return to, append(grads, grad), err
}

func checkSlowly(n []api.Layer, in int) (int, error) {
	if len(n) == 0 {
		return layer.Wide(reluOf(), in)
	}
	cols, err := layer.Wide(n[0], in)
	if err != nil {
		return 0, err
	}
	return checkSlowly(n[1:], cols)
}

func TestN1AndN2ToTheLastBit(t *testing.T) {
	r := rand.New(rand.NewSource(1))
	for range 400 {
		cols := 1 + r.Intn(api.MaxSide)
		n := someNet(r, r.Intn(api.MaxLayers+1), cols)
		x := some(r, r.Intn(api.MaxRows+1), cols)
		saw, err := goSlowly(n, x)
		mustGo(t, "some", n, x, saw, plain.Told(err))
		mustCheck(t, "some", n, cols, saw[len(n)].Cols, api.OK)
		saw, _ = goSlowly(n, some(r, r.Intn(api.MaxSide+1), cols))
		g := some(r, saw[len(n)].Rows, saw[len(n)].Cols)
		to, grads, err := backSlowly(n, saw, g)
		mustBack(t, "some", n, saw, g, to, grads, plain.Told(err))
	}
}

// doubtful and doubtfulLayers have all sorts, right and wrong of themselves.
func doubtful() []api.Matrix {
	return []api.Matrix{
		{}, of(0, 2), of(1, 0), of(1, 2, -1, 1), of(1, 3, 3, 256, top), of(2, 2, 1, -top, 0, 4),
		full(13, 2, 1), full(13, 3, 1), of(1, 2, 1), of(1, 2, 0, top+1), of(-1, 2),
	}
}

func doubtfulLayers() []api.Layer {
	return []api.Layer{
		wideOf(2, 3), wideOf(3, 2), reluOf(), scaleOf(-300), shiftOf(1, 2), shiftOf(3, 2, 1),
		{Kind: 7}, {Kind: api.Relu, B: of(1, 1, 1)}, linearOf(of(2, 2, 1), of(1, 2, 1, top+1)),
	}
}

// allNets has all nets of up to so many doubtful layers.
func allNets(most int) [][]api.Layer {
	nets := [][]api.Layer{nil}
	shorter := nets
	for range most {
		var longer [][]api.Layer
		for _, n := range shorter {
			for _, l := range doubtfulLayers() {
				longer = append(longer, append(slices.Clone(n), l))
			}
		}
		nets, shorter = append(nets, longer...), longer
	}
	return nets
}

// noneIf is what stands beside an error: nothing.
func noneIf[T any](err error, x T) T {
	if err != nil {
		var none T
		return none
	}
	return x
}

// TestP1AllSorts asks what can be put together of doubtful ones, and holds it
// against the chapter's order of what is told.
func TestP1AllSorts(t *testing.T) {
	r := rand.New(rand.NewSource(2))
	pick := func() api.Matrix { return doubtful()[r.Intn(len(doubtful()))] }
	for _, n := range allNets(3) {
		for in := -1; in <= api.MaxSide+1; in++ {
			cols, err := checkSlowly(n, in)
			mustCheck(t, "all sorts", n, in, cols, plain.Told(err))
		}
		for _, x := range doubtful() {
			saw, err := goSlowly(n, x)
			told := plain.Told(mat.Check(x))
			if told == api.OK {
				told = plain.Told(err)
			}
			mustGo(t, "all sorts", n, x, noneIf(err, saw), told)
			for len(saw) < len(n)+1 {
				saw = append(saw, pick())
			}
			saw[r.Intn(len(saw))] = pick()
			for _, g := range doubtful() {
				to, grads, err := backSlowly(n, saw, g)
				mustBack(t, "all sorts", n, saw, g, noneIf(err, to), noneIf(err, grads), plain.Told(err))
			}
		}
	}
}

func TestN3Zero(t *testing.T) {
	for _, c := range []struct {
		name string
		n    []api.Layer
		want []api.Grad
	}{
		{"no layers", nil, nil},
		{"an empty list", []api.Layer{}, nil},
		{"each Kind", small(), []api.Grad{{W: full(2, 3, 0), B: full(1, 3, 0)}, {}, {W: of(1, 1, 0)}, {B: full(1, 3, 0)}}},
		{"greatest", netOf(wideOf(12, 12)), []api.Grad{{W: full(12, 12, 0), B: full(1, 12, 0)}}},
		{"no Kind", []api.Layer{{}}, []api.Grad{{}}},
		{"a Kind that is none", []api.Layer{{Kind: -5, W: full(2, 2, 9), B: full(3, 1, 9)}}, []api.Grad{{W: full(2, 2, 0), B: full(3, 1, 0)}}},
		{"not the Kind's", []api.Layer{{Kind: api.Relu, W: full(1, 2, 9), B: of(0, 7)}}, []api.Grad{{W: full(1, 2, 0), B: of(0, 7)}}},
	} {
		if got := Zero(c.n); !sameGrads(got, c.want) {
			t.Errorf("%s: Zero(%v) = %v, want %v", c.name, c.n, got, c.want)
		}
	}
}

// TestN3ZeroOfWhatIsNoMatrix: Rows and Cols as they stand, and as many cells as there are.
func TestN3ZeroOfWhatIsNoMatrix(t *testing.T) {
	huge := of(math.MaxInt, math.MinInt, 1, 2, 3)
	as := []api.Matrix{huge, of(1<<40, 1<<40), full(100, 100, 1), of(0, 0, 4, 5)}
	for _, c := range wrong() {
		as = append(as, c.a)
	}
	for _, w := range as {
		for _, b := range as {
			n := []api.Layer{{Kind: api.Linear, W: w, B: b}, {W: b, B: w}}
			zeroW, zeroB := of(w.Rows, w.Cols, make([]int, len(w.Cells))...), of(b.Rows, b.Cols, make([]int, len(b.Cells))...)
			want := []api.Grad{{W: zeroW, B: zeroB}, {W: zeroB, B: zeroW}}
			if got := Zero(n); !sameGrads(got, want) {
				t.Errorf("Zero(%v) = %v, want %v", n, got, want)
			}
		}
	}
}

// TestN3ZeroOfManyLayers: Zero and Gather have no bound of how many there are.
func TestN3ZeroOfManyLayers(t *testing.T) {
	for _, count := range []int{api.MaxLayers, api.MaxLayers + 1, 1000} {
		n := slices.Repeat(netOf(scaleOf(9)), count)
		want := slices.Repeat([]api.Grad{{W: of(1, 1, 0)}}, count)
		if got := Zero(n); !sameGrads(got, want) {
			t.Errorf("Zero of %d layers = %v", count, got)
		}
		ones := slices.Repeat([]api.Grad{{W: of(1, 1, 1)}}, count)
		mustGather(t, "many", want, ones, ones, api.OK)
	}
}

func TestN3Gather(t *testing.T) {
	for _, c := range []struct {
		name       string
		a, b, want []api.Grad
	}{
		{"none", nil, nil, nil},
		{"an empty list and none", []api.Grad{}, nil, nil},
		{"one that is empty", []api.Grad{{}}, []api.Grad{{}}, []api.Grad{{}}},
		{"W and B", []api.Grad{{W: of(1, 2, 1, 2), B: of(1, 1, 3)}}, []api.Grad{{W: of(1, 2, 10, -20), B: of(1, 1, 30)}},
			[]api.Grad{{W: of(1, 2, 11, -18), B: of(1, 1, 33)}}},
		{"one by one", []api.Grad{{W: of(1, 1, 1)}, {}, {B: of(2, 1, 5, 6)}}, []api.Grad{{W: of(1, 1, 7)}, {}, {B: of(2, 1, 1, 1)}},
			[]api.Grad{{W: of(1, 1, 8)}, {}, {B: of(2, 1, 6, 7)}}},
		{"at the ends", []api.Grad{{W: of(1, 3, top, -top, top), B: of(1, 2, -top, top)}}, []api.Grad{{W: of(1, 3, 1, -1, -top), B: of(1, 2, -top, top)}},
			[]api.Grad{{W: of(1, 3, top, -top, 0), B: of(1, 2, -top, top)}}},
		{"no rows, no columns", []api.Grad{{W: of(0, 12), B: of(24, 0)}}, []api.Grad{{W: of(0, 12), B: of(24, 0)}}, []api.Grad{{W: of(0, 12), B: of(24, 0)}}},
		{"greatest", []api.Grad{{W: full(24, 12, 2), B: full(24, 12, 3)}}, []api.Grad{{W: full(24, 12, 5), B: full(24, 12, 5)}},
			[]api.Grad{{W: full(24, 12, 7), B: full(24, 12, 8)}}},
	} {
		mustGather(t, c.name, c.a, c.b, c.want, api.OK)
		mustGather(t, c.name+", the other way round", c.b, c.a, c.want, api.OK)
	}
}

// TestN3GatherFromZeroOn: in the order in which they come, to the last bit.
func TestN3GatherFromZeroOn(t *testing.T) {
	sum := Zero(netOf(scaleOf(3)))
	for _, c := range []struct{ by, want int }{{top, top}, {5, top}, {-5, top - 5}, {-top, -5}, {-top, -top}, {top, 0}} {
		var err error
		sum, err = Gather(sum, []api.Grad{{W: of(1, 1, c.by)}})
		if !sameGrads(sum, []api.Grad{{W: of(1, 1, c.want)}}) || err != nil {
			t.Fatalf("Gather of %d: %v, %v; want %d", c.by, sum, err, c.want)
		}
	}
	r := rand.New(rand.NewSource(3))
	for range 100 {
		n := someNet(r, r.Intn(13), 1+r.Intn(12))
		grads := Zero(n)
		for i := range grads {
			grads[i] = api.Grad{W: some(r, n[i].W.Rows, n[i].W.Cols), B: some(r, n[i].B.Rows, n[i].B.Cols)}
		}
		mustGather(t, "Zero and Grads", Zero(n), grads, grads, api.OK)
	}
}

// refuseGather holds that it is told so either way round, and that nothing stands beside it.
func refuseGather(t *testing.T, name string, a, b []api.Grad, told api.Errno) {
	t.Helper()
	mustGather(t, name, a, b, nil, told)
	mustGather(t, name+", the other way round", b, a, nil, told)
}

func TestN3GatherRefuses(t *testing.T) {
	one := api.Grad{W: of(1, 1, 1), B: of(1, 1, 1)}
	for a := range 15 {
		for b := range 15 {
			if a != b {
				refuseGather(t, "not as many", slices.Repeat([]api.Grad{one}, a), slices.Repeat([]api.Grad{one}, b), api.ErrShape)
			}
		}
	}
	bad := api.Grad{W: of(1, 1, top+1)}
	refuseGather(t, "not as many, then a cell", []api.Grad{bad}, []api.Grad{bad, bad}, api.ErrShape)
	refuseGather(t, "not as many, none", nil, []api.Grad{bad}, api.ErrShape)
	for i := range 3 {
		for _, other := range []api.Matrix{{}, of(0, 1), of(1, 0), full(1, 2, 1), full(2, 1, 1), full(2, 2, 1)} {
			a, b := slices.Repeat([]api.Grad{one}, 3), slices.Repeat([]api.Grad{one}, 3)
			b[i].W = other
			refuseGather(t, "shape of W", a, b, api.ErrShape)
			b[i].W, b[i].B = one.W, other
			refuseGather(t, "shape of B", a, b, api.ErrShape)
		}
		for _, c := range wrong() {
			a, b := slices.Repeat([]api.Grad{one}, 3), slices.Repeat([]api.Grad{one}, 3)
			b[i].W = c.a
			refuseGather(t, "W: "+c.name, a, b, c.told)
			b[i].W, b[i].B = one.W, c.a
			refuseGather(t, "B: "+c.name, a, b, c.told)
		}
	}
}

// TestN3GatherInOrder: Grad by Grad, of each W, then B, of each the first one's, then the second one's.
func TestN3GatherInOrder(t *testing.T) {
	ok, shape, reach := of(1, 2, 1, 2), of(1, 2, 1), of(1, 2, 1, top+1)
	other := of(2, 1, 1, 2)
	type pair struct{ a, b api.Matrix }
	faults := []struct {
		p    pair
		told api.Errno
	}{
		{pair{reach, ok}, api.ErrRange}, {pair{ok, reach}, api.ErrRange}, {pair{shape, ok}, api.ErrShape}, {pair{ok, shape}, api.ErrShape},
		{pair{ok, other}, api.ErrShape}, {pair{reach, shape}, api.ErrRange}, {pair{shape, reach}, api.ErrShape}, {pair{other, reach}, api.ErrRange},
	}
	for first := range 6 {
		for second := first + 1; second < 6; second++ {
			for _, f := range faults {
				for _, s := range faults {
					a, b := make([]api.Grad, 3), make([]api.Grad, 3)
					lay := func(place int, p pair) {
						if place%2 == 0 {
							a[place/2].W, b[place/2].W = p.a, p.b
						} else {
							a[place/2].B, b[place/2].B = p.a, p.b
						}
					}
					lay(first, f.p)
					lay(second, s.p)
					mustGather(t, "two faults", a, b, nil, f.told)
				}
			}
		}
	}
}

// TestN4TwoNetsAreOne: wherever a net is cut, there and back.
func TestN4TwoNetsAreOne(t *testing.T) {
	r := rand.New(rand.NewSource(4))
	for range 60 {
		cols, count := 1+r.Intn(api.MaxSide), r.Intn(api.MaxLayers+1)
		n := someNet(r, count, cols)
		x := some(r, r.Intn(api.MaxSide+1), cols)
		saw := sawOf(t, n, x)
		g := some(r, saw[count].Rows, saw[count].Cols)
		to, grads, err := Back(n, saw, g)
		if err != nil {
			t.Fatal(err)
		}
		for at := range count + 1 {
			behindCut(t, n, saw, at)
			backOverCut(t, n, saw, at, g, to, grads)
		}
	}
}

func behindCut(t *testing.T, n []api.Layer, saw []api.Matrix, at int) {
	t.Helper()
	between, err := Check(n[:at], saw[0].Cols)
	if between != saw[at].Cols || err != nil {
		t.Errorf("Check of %d layers of %v: %d, %v; want %d", at, n, between, err, saw[at].Cols)
	}
	mustCheck(t, "the second net", n[at:], between, saw[len(n)].Cols, api.OK)
	mustGo(t, "the first net", n[:at], saw[0], saw[:at+1], api.OK)
	mustGo(t, "the second net", n[at:], saw[at], saw[at:], api.OK)
}

func backOverCut(t *testing.T, n []api.Layer, saw []api.Matrix, at int, g, to api.Matrix, grads []api.Grad) {
	t.Helper()
	between, second, err := Back(n[at:], saw[at:], g)
	if err != nil || !sameGrads(second, grads[at:]) {
		t.Errorf("Back from layer %d on of %v: %v, %v; want %v", at, n, second, err, grads[at:])
	}
	mustBack(t, "the first net", n[:at], saw[:at+1], between, to, grads[:at], api.OK)
}

// TestN4WrongNetsToo: what is wrong with the one net is what is wrong with the
// first, or else with the second (on the way back: the second, or else the first).
func TestN4WrongNetsToo(t *testing.T) {
	g := full(1, 2, 1)
	for _, first := range allNets(1) {
		for _, second := range allNets(2) {
			n := slices.Concat(first, second)
			cols, err := Check(first, 2)
			if err == nil {
				cols, err = Check(second, cols)
			}
			mustCheck(t, "two nets", n, 2, cols, plain.Told(err))
			saw, err := Go(first, g)
			if err == nil {
				var rest []api.Matrix
				rest, err = Go(second, saw[len(first)])
				saw = append(saw, rest[min(1, len(rest)):]...)
			}
			mustGo(t, "two nets", n, g, noneIf(err, saw), plain.Told(err))
			saw = slices.Repeat([]api.Matrix{g}, len(n)+1)
			to, grads, err := Back(second, saw[len(first):], g)
			if err == nil {
				var ahead []api.Grad
				to, ahead, err = Back(first, saw[:len(first)+1], to)
				grads = slices.Concat(ahead, grads)
			}
			mustBack(t, "two nets", n, saw, g, noneIf(err, to), noneIf(err, grads), plain.Told(err))
		}
	}
}
