package layer

import (
	"fmt"
	"math"
	"math/rand"
	"slices"
	"testing"

	"galley/api"
	"galley/mat"
	"galley/plain"
)

const top = api.Top

// of makes a matrix of what it is told, right or wrong.
func of(rows, cols int, cells ...int) api.Matrix {
	return api.Matrix{Rows: rows, Cols: cols, Cells: cells}
}

// full makes a matrix of which all cells are the same.
func full(rows, cols, x int) api.Matrix {
	return api.Matrix{Rows: rows, Cols: cols, Cells: slices.Repeat([]int{x}, rows*cols)}
}

// some makes a matrix of small numbers, or of such that sums come to an end.
func some(r *rand.Rand, rows, cols int) api.Matrix {
	a := full(rows, cols, 0)
	bound := []int{3, 1000, 1 << 20, top}[r.Intn(4)]
	for i := range a.Cells {
		a.Cells[i] = r.Intn(2*bound+1) - bound
	}
	return a
}

func linearOf(w, b api.Matrix) api.Layer { return api.Layer{Kind: api.Linear, W: w, B: b} }

func reluOf() api.Layer { return api.Layer{Kind: api.Relu} }

func scaleOf(x int) api.Layer { return api.Layer{Kind: api.Scale, W: of(1, 1, x)} }

func shiftOf(cells ...int) api.Layer {
	return api.Layer{Kind: api.Shift, B: of(1, len(cells), cells...)}
}

// someLayer is one of a Kind that takes so many columns, from 1 on.
func someLayer(r *rand.Rand, kind, cols int) api.Layer {
	switch kind {
	case api.Linear:
		out := 1 + r.Intn(api.MaxSide)
		return linearOf(some(r, cols, out), some(r, 1, out))
	case api.Scale:
		return api.Layer{Kind: kind, W: some(r, 1, 1)}
	case api.Shift:
		return api.Layer{Kind: kind, B: some(r, 1, cols)}
	}
	return reluOf()
}

func kinds() []int { return []int{api.Linear, api.Relu, api.Scale, api.Shift} }

func same(a, b api.Matrix) bool {
	return a.Rows == b.Rows && a.Cols == b.Cols && slices.Equal(a.Cells, b.Cells)
}

func sameGrad(a, b api.Grad) bool { return same(a.W, b.W) && same(a.B, b.B) }

func mustTell(t *testing.T, name string, err error, told api.Errno) {
	t.Helper()
	if got := plain.Told(err); got != told {
		t.Errorf("%s: got %v, want %v", name, got, told)
	}
}

func mustWide(t *testing.T, name string, l api.Layer, in, want int, told api.Errno) {
	t.Helper()
	if got, err := Wide(l, in); got != want || plain.Told(err) != told {
		t.Errorf("%s: Wide(%v, %d) = %d, %v; want %d, %v", name, l, in, got, err, want, told)
	}
}

func mustGo(t *testing.T, name string, l api.Layer, x, want api.Matrix, told api.Errno) {
	t.Helper()
	if got, err := Go(l, x); !same(got, want) || plain.Told(err) != told {
		t.Errorf("%s: Go(%v, %v) = %v, %v; want %v, %v", name, l, x, got, err, want, told)
	}
}

func mustBack(t *testing.T, name string, l api.Layer, x, g, want api.Matrix, grad api.Grad, told api.Errno) {
	t.Helper()
	got, d, err := Back(l, x, g)
	if !same(got, want) || !sameGrad(d, grad) || plain.Told(err) != told {
		t.Errorf("%s: Back(%v, %v, %v) = %v, %v, %v; want %v, %v, %v", name, l, x, g, got, d, err, want, grad, told)
	}
}

// mustRefuse holds that all calls but Check say the same of a layer, ahead of
// what they say of anything else, and that nothing stands beside it.
func mustRefuse(t *testing.T, name string, l api.Layer, told api.Errno) {
	t.Helper()
	mustTell(t, name, Check(l), told)
	for _, in := range []int{-1, 0, 2, api.MaxSide + 1} {
		mustWide(t, name, l, in, 0, told)
	}
	for _, x := range []api.Matrix{{}, full(1, 2, 1), of(1, 1), of(1, 1, top+1), full(13, 2, 1)} {
		mustGo(t, name, l, x, api.Matrix{}, told)
		for _, g := range []api.Matrix{{}, full(1, 2, 1), of(1, 1), of(1, 1, top+1)} {
			mustBack(t, name, l, x, g, api.Matrix{}, api.Grad{}, told)
		}
	}
}

type refused struct {
	name string
	a    api.Matrix
	told api.Errno
}

// wrong has matrices that are wrong of themselves.
func wrong() []refused {
	return []refused{
		{"Rows below 0", of(-1, 2, 1, 2), api.ErrRange},
		{"Cols below 0", of(2, -1, 1, 2), api.ErrRange},
		{"Rows above MaxRows", full(api.MaxRows+1, 1, 0), api.ErrRange},
		{"Cols above MaxSide", full(1, api.MaxSide+1, 0), api.ErrRange},
		{"a product that wraps round", of(1<<32, 1<<32), api.ErrRange},
		{"a cell too few", of(2, 2, 1, 2, 3), api.ErrShape},
		{"a cell too many", of(1, 1, 1, 2), api.ErrShape},
		{"a cell and no rows", of(0, 0, 1), api.ErrShape},
		{"a cell above Top", of(1, 1, top+1), api.ErrRange},
		{"a cell below -Top", of(1, 2, 0, -top-1), api.ErrRange},
		{"a cell far below", of(2, 2, 0, 0, 0, math.MinInt), api.ErrRange},
	}
}

func TestL1CheckTakes(t *testing.T) {
	for _, l := range []api.Layer{
		linearOf(of(1, 1, 5), of(1, 1, 5)),
		linearOf(full(1, 12, top), full(1, 12, -top)),
		linearOf(full(12, 1, -top), of(1, 1, top)),
		linearOf(full(12, 12, 1), full(1, 12, 1)),
		linearOf(full(2, 3, 1), full(1, 3, 1)),
		reluOf(),
		{Kind: api.Relu, W: api.Matrix{Cells: []int{}}, B: api.Matrix{Cells: []int{}}},
		scaleOf(0), scaleOf(top), scaleOf(-top),
		{Kind: api.Scale, W: of(1, 1, 1), B: api.Matrix{Cells: []int{}}},
		shiftOf(7), shiftOf(full(1, 12, -top).Cells...),
	} {
		if err := Check(l); err != nil {
			t.Errorf("Check(%v) = %v, want nil", l, err)
		}
	}
}

func TestL1NoSuchKind(t *testing.T) {
	for _, kind := range []int{0, 5, -1, -2, 6, 12, 257, 1<<32 + 1, math.MinInt, math.MaxInt} {
		for _, w := range []api.Matrix{{}, of(1, 1, 1), of(1, 1), of(1, 1, top+1)} {
			for _, b := range []api.Matrix{{}, of(1, 1, 1), of(1, 1), of(1, 1, top+1)} {
				mustRefuse(t, fmt.Sprint("Kind ", kind), api.Layer{Kind: kind, W: w, B: b}, api.ErrRange)
			}
		}
	}
}

// TestL1WrongOfItself: of W, then of B, then that their shapes are not the Kind's.
func TestL1WrongOfItself(t *testing.T) {
	for _, kind := range kinds() {
		for _, c := range wrong() {
			for _, b := range []api.Matrix{{}, of(1, 1, 1), full(2, 3, 1)} {
				mustRefuse(t, "W: "+c.name, api.Layer{Kind: kind, W: c.a, B: b}, c.told)
				mustRefuse(t, "B: "+c.name, api.Layer{Kind: kind, W: b, B: c.a}, c.told)
			}
			for _, d := range wrong() {
				mustRefuse(t, "W: "+c.name+", B: "+d.name, api.Layer{Kind: kind, W: c.a, B: d.a}, c.told)
			}
		}
	}
}

func TestL1ShapesNotTheKinds(t *testing.T) {
	empty, one := api.Matrix{}, of(1, 1, 1)
	for _, c := range []struct {
		name string
		kind int
		w, b api.Matrix
	}{
		{"both empty", api.Linear, empty, empty},
		{"no W", api.Linear, empty, one},
		{"no B", api.Linear, one, empty},
		{"W without rows", api.Linear, of(0, 2), full(1, 2, 1)},
		{"W without columns", api.Linear, of(2, 0), of(1, 0)},
		{"W of more rows than MaxSide", api.Linear, full(13, 2, 1), full(1, 2, 1)},
		{"W of MaxRows rows", api.Linear, full(24, 12, 1), full(1, 12, 1)},
		{"B of fewer columns", api.Linear, full(2, 3, 1), full(1, 2, 1)},
		{"B of more columns", api.Linear, full(2, 3, 1), full(1, 4, 1)},
		{"B of as many columns as W has rows", api.Linear, full(3, 2, 1), full(1, 3, 1)},
		{"B of two rows", api.Linear, full(2, 2, 1), full(2, 2, 1)},
		{"B without rows", api.Linear, full(2, 2, 1), of(0, 2)},
		{"B turned", api.Linear, full(2, 2, 1), full(2, 1, 1)},
		{"W", api.Relu, one, empty},
		{"B", api.Relu, empty, one},
		{"W with columns alone", api.Relu, of(0, 1), empty},
		{"W with rows alone", api.Relu, of(1, 0), empty},
		{"B with columns alone", api.Relu, empty, of(0, 1)},
		{"B with rows alone", api.Relu, empty, of(1, 0)},
		{"no W", api.Scale, empty, empty},
		{"W of two columns", api.Scale, full(1, 2, 1), empty},
		{"W of two rows", api.Scale, full(2, 1, 1), empty},
		{"W without columns", api.Scale, of(1, 0), empty},
		{"W without rows", api.Scale, of(0, 1), empty},
		{"B", api.Scale, one, one},
		{"B with columns alone", api.Scale, one, of(0, 1)},
		{"B with rows alone", api.Scale, one, of(1, 0)},
		{"number in B", api.Scale, empty, one},
		{"no B", api.Shift, empty, empty},
		{"B of two rows", api.Shift, empty, full(2, 2, 1)},
		{"B without columns", api.Shift, empty, of(1, 0)},
		{"B without rows", api.Shift, empty, of(0, 2)},
		{"W", api.Shift, one, one},
		{"W with columns alone", api.Shift, of(0, 1), one},
		{"W with rows alone", api.Shift, of(1, 0), one},
		{"numbers in W", api.Shift, full(1, 2, 1), empty},
	} {
		mustRefuse(t, fmt.Sprint(c.name, ", Kind ", c.kind), api.Layer{Kind: c.kind, W: c.w, B: c.b}, api.ErrShape)
	}
}

func TestL2Wide(t *testing.T) {
	for in := 0; in <= api.MaxSide; in++ {
		mustWide(t, "Relu", reluOf(), in, in, api.OK)
		mustWide(t, "Scale", scaleOf(5), in, in, api.OK)
		for cols := 1; cols <= api.MaxSide; cols++ {
			told, linearOut, shiftOut := api.ErrShape, 0, 0
			if in == cols {
				told, linearOut, shiftOut = api.OK, 13-cols, cols
			}
			mustWide(t, "Linear", linearOf(full(cols, 13-cols, 1), full(1, 13-cols, 1)), in, linearOut, told)
			mustWide(t, "Shift", shiftOf(full(1, cols, 1).Cells...), in, shiftOut, told)
		}
	}
	for _, in := range []int{-1, -12, 13, 24, 1<<32 + 1, math.MinInt, math.MaxInt} {
		for _, l := range []api.Layer{linearOf(of(1, 1, 1), of(1, 1, 1)), reluOf(), scaleOf(1), shiftOf(1)} {
			mustWide(t, "beyond its bounds", l, in, 0, api.ErrRange)
		}
	}
}

func TestL2Go(t *testing.T) {
	w := of(2, 3, 256, 0, -256, 0, 512, 128)
	for _, c := range []struct {
		name    string
		l       api.Layer
		x, want api.Matrix
	}{
		{"the chapter's", linearOf(of(2, 2, 256, 0, 0, 512), of(1, 2, 1, 2)), of(1, 2, 3, 4), of(1, 2, 4, 10)},
		{"Linear, B to each row", linearOf(w, of(1, 3, 1, 2, 3)), of(2, 2, 10, 20, 30, 40), of(2, 3, 11, 42, 3, 31, 82, -7)},
		{"Linear, one cell", linearOf(of(1, 1, 512), of(1, 1, -1)), of(1, 1, 5), of(1, 1, 9)},
		{"Linear, greatest", linearOf(full(12, 12, 256), full(1, 12, 7)), full(24, 12, 3), full(24, 12, 43)},
		{"Linear, a column", linearOf(full(12, 1, 256), of(1, 1, 1)), full(12, 12, 1), full(12, 1, 13)},
		{"Linear, a row", linearOf(full(1, 12, 256), full(1, 12, 1)), full(24, 1, 5), full(24, 12, 6)},
		{"Linear, B behind the sum", linearOf(of(2, 1, 256, 256), of(1, 1, -1)), of(1, 2, top, top), of(1, 1, top-1)},
		{"Linear, the sum in order", linearOf(of(3, 1, 256, 256, 256), of(1, 1, 0)), of(1, 3, top, top, -top), of(1, 1, 0)},
		{"Linear, at the ends", linearOf(of(1, 2, top, -top), of(1, 2, top, -top)), of(2, 1, top, -top), of(2, 2, top, -top, 0, 0)},
		{"Linear, no rows", linearOf(w, of(1, 3, 1, 2, 3)), of(0, 2), of(0, 3)},
		{"Relu", reluOf(), of(2, 3, -5, 0, 5, 1, -1, 0), of(2, 3, 0, 0, 5, 1, 0, 0)},
		{"Relu, at the ends", reluOf(), of(1, 2, -top, top), of(1, 2, 0, top)},
		{"Relu, greatest", reluOf(), full(24, 12, -1), full(24, 12, 0)},
		{"Relu, no rows", reluOf(), of(0, 12), of(0, 12)},
		{"Relu, no columns", reluOf(), of(24, 0), of(24, 0)},
		{"Relu, empty", reluOf(), api.Matrix{}, api.Matrix{}},
		{"Scale", scaleOf(128), of(2, 2, 256, -256, 1, -1), of(2, 2, 128, -128, 0, -1)},
		{"Scale by 0", scaleOf(0), of(1, 2, top, -top), of(1, 2, 0, 0)},
		{"Scale, at the ends", scaleOf(-top), of(1, 3, top, -top, 256), of(1, 3, -top, top, -top)},
		{"Scale, greatest", scaleOf(512), full(24, 12, 3), full(24, 12, 6)},
		{"Scale, no rows", scaleOf(5), of(0, 3), of(0, 3)},
		{"Scale, no columns", scaleOf(5), of(3, 0), of(3, 0)},
		{"Scale, empty", scaleOf(5), api.Matrix{}, api.Matrix{}},
		{"Shift", shiftOf(1, -2), of(2, 2, 10, 20, 30, 40), of(2, 2, 11, 18, 31, 38)},
		{"Shift, at the ends", shiftOf(1, -1, -top), of(1, 3, top, -top, top), of(1, 3, top, -top, 0)},
		{"Shift, one column", shiftOf(5), full(24, 1, 1), full(24, 1, 6)},
		{"Shift, greatest", shiftOf(full(1, 12, 4).Cells...), full(24, 12, 3), full(24, 12, 7)},
		{"Shift, no rows", shiftOf(1, 2), of(0, 2), of(0, 2)},
	} {
		mustGo(t, c.name, c.l, c.x, c.want, api.OK)
	}
}

// layers has one of each Kind that takes two columns.
func layers() []api.Layer {
	return []api.Layer{linearOf(full(2, 3, 1), full(1, 3, 1)), reluOf(), scaleOf(5), shiftOf(1, 2)}
}

// TestL2GoRefuses: mat's Check of x, then its columns.
func TestL2GoRefuses(t *testing.T) {
	for _, l := range layers() {
		for _, c := range wrong() {
			mustGo(t, c.name, l, c.a, api.Matrix{}, c.told)
			mustBack(t, c.name, l, c.a, of(1, 2, top+1), api.Matrix{}, api.Grad{}, c.told)
		}
	}
	for _, x := range []api.Matrix{{}, of(0, 3), of(2, 0), full(1, 1, 1), full(1, 3, 1), full(2, 12, 1), full(13, 3, 1)} {
		for _, l := range []api.Layer{layers()[0], layers()[3]} {
			mustGo(t, "not its columns", l, x, api.Matrix{}, api.ErrShape)
			mustBack(t, "not its columns", l, x, of(1, 1, top+1), api.Matrix{}, api.Grad{}, api.ErrShape)
		}
	}
	mustGo(t, "a cell, then columns", shiftOf(1, 2), of(1, 1, top+1), api.Matrix{}, api.ErrRange)
	mustGo(t, "a cell, then columns", layers()[0], of(1, 3, 0, 0, -top-1), api.Matrix{}, api.ErrRange)
	mustGo(t, "Cols beyond their bounds", shiftOf(1, 2), full(1, 13, 1), api.Matrix{}, api.ErrRange)
}

func TestL3BackOfLinear(t *testing.T) {
	chapters := linearOf(of(2, 2, 256, 0, 0, 512), of(1, 2, 1, 2))
	wide := linearOf(of(2, 3, 256, 0, -256, 0, 512, 128), of(1, 3, 1, 2, 3))
	for _, c := range []struct {
		name       string
		l          api.Layer
		x, g, want api.Matrix
		w, b       api.Matrix
	}{
		{"the chapter's", chapters, of(1, 2, 3, 4), of(1, 2, 256, 256), of(1, 2, 256, 512), of(2, 2, 3, 3, 4, 4), of(1, 2, 256, 256)},
		{"two rows", wide, of(2, 2, 256, 512, 0, -256), of(2, 3, 1, 2, 3, 10, 20, 30),
			of(2, 2, -2, 5, -20, 55), of(2, 3, 1, 2, 3, -8, -16, -24), of(1, 3, 11, 22, 33)},
		{"one cell", linearOf(of(1, 1, 512), of(1, 1, -1)), of(1, 1, 256), of(1, 1, 3), of(1, 1, 6), of(1, 1, 3), of(1, 1, 3)},
		{"B does not matter", linearOf(of(1, 1, 512), of(1, 1, top)), of(1, 1, 256), of(1, 1, 3), of(1, 1, 6), of(1, 1, 3), of(1, 1, 3)},
		{"greatest", linearOf(full(12, 12, 256), full(1, 12, 7)), full(12, 12, 256), full(12, 12, 2), full(12, 12, 24), full(12, 12, 24), full(1, 12, 24)},
		{"a column", linearOf(full(12, 1, 256), of(1, 1, 7)), full(12, 12, 256), full(12, 1, 2), full(12, 12, 2), full(12, 1, 24), of(1, 1, 24)},
		{"a row", linearOf(full(1, 12, 256), full(1, 12, 7)), full(12, 1, 256), full(12, 12, 2), full(12, 1, 24), full(1, 12, 24), full(1, 12, 24)},
		{"sums in order of rows", linearOf(of(1, 1, 256), of(1, 1, 0)), of(3, 1, 256, 256, 256), of(3, 1, top, top, -top),
			of(3, 1, top, top, -top), of(1, 1, 0), of(1, 1, 0)},
		{"at the ends", linearOf(of(1, 2, top, -top), of(1, 2, 0, 0)), of(1, 1, -top), of(1, 2, top, -top), of(1, 1, top), of(1, 2, -top, top), of(1, 2, top, -top)},
		{"no rows", wide, of(0, 2), of(0, 3), of(0, 2), full(2, 3, 0), full(1, 3, 0)},
	} {
		mustBack(t, c.name, c.l, c.x, c.g, c.want, api.Grad{W: c.w, B: c.b}, api.OK)
	}
}

func TestL3BackOfKeepers(t *testing.T) {
	no := api.Matrix{}
	for _, c := range []struct {
		name       string
		l          api.Layer
		x, g, want api.Matrix
		w, b       api.Matrix
	}{
		{"Relu", reluOf(), of(2, 3, -5, 0, 5, 1, -1, 0), of(2, 3, 10, 20, 30, -40, -50, -60), of(2, 3, 0, 0, 30, -40, 0, 0), no, no},
		{"Relu, at the ends", reluOf(), of(1, 4, top, -top, top, -top), of(1, 4, top, top, -top, -top), of(1, 4, top, 0, -top, 0), no, no},
		{"Relu, MaxRows rows", reluOf(), full(24, 12, 1), full(24, 12, -9), full(24, 12, -9), no, no},
		{"Relu, no rows", reluOf(), of(0, 3), of(0, 3), of(0, 3), no, no},
		{"Relu, no columns", reluOf(), of(13, 0), of(13, 0), of(13, 0), no, no},
		{"Relu, empty", reluOf(), no, no, no, no, no},
		{"Scale", scaleOf(128), of(2, 2, 256, 512, -256, 1), of(2, 2, 10, 20, 30, -1), of(2, 2, 5, 10, 15, -1), of(1, 1, 10+40-30-1), no},
		{"Scale, the sum in order", scaleOf(256), of(1, 3, 256, 256, 256), of(1, 3, top, top, -top), of(1, 3, top, top, -top), of(1, 1, 0), no},
		{"Scale, the sum row by row", scaleOf(256), of(2, 2, 256, 256, 256, 256), of(2, 2, top, -top, top, 5), of(2, 2, top, -top, top, 5), of(1, 1, top), no},
		{"Scale, the sum not column by column", scaleOf(256), of(2, 2, 256, 256, 256, 256), of(2, 2, top, 9, top, -top), of(2, 2, top, 9, top, -top), of(1, 1, 0), no},
		{"Scale, each product rounded down", scaleOf(256), of(1, 2, 1, 1), of(1, 2, -1, -1), of(1, 2, -1, -1), of(1, 1, -2), no},
		{"Scale by 0", scaleOf(0), of(1, 1, 256), of(1, 1, 9), of(1, 1, 0), of(1, 1, 9), no},
		{"Scale, at the ends", scaleOf(-top), of(1, 1, top), of(1, 1, top), of(1, 1, -top), of(1, 1, top), no},
		{"Scale, MaxRows rows", scaleOf(512), full(24, 12, 256), full(24, 12, 1), full(24, 12, 2), of(1, 1, 288), no},
		{"Scale, no rows", scaleOf(5), of(0, 3), of(0, 3), of(0, 3), of(1, 1, 0), no},
		{"Scale, empty", scaleOf(5), no, no, no, of(1, 1, 0), no},
		{"Shift", shiftOf(1, -2), of(2, 2, 7, 7, 7, 7), of(2, 2, 10, 20, 30, 40), of(2, 2, 10, 20, 30, 40), no, of(1, 2, 40, 60)},
		{"Shift, sums in order of rows", shiftOf(1), full(3, 1, 0), of(3, 1, -top, -top, top), of(3, 1, -top, -top, top), no, of(1, 1, 0)},
		{"Shift, MaxRows rows", shiftOf(full(1, 12, 1).Cells...), full(24, 12, 1), full(24, 12, -3), full(24, 12, -3), no, full(1, 12, -72)},
		{"Shift, no rows", shiftOf(1, 2), of(0, 2), of(0, 2), of(0, 2), no, full(1, 2, 0)},
	} {
		mustBack(t, c.name, c.l, c.x, c.g, c.want, api.Grad{W: c.w, B: c.b}, api.OK)
	}
}

// TestL3BackRefusesG: mat's Check of g, then its shape.
func TestL3BackRefusesG(t *testing.T) {
	for _, l := range layers() {
		made, err := Go(l, full(3, 2, 1))
		mustTell(t, "Go", err, api.OK)
		for _, c := range wrong() {
			mustBack(t, c.name, l, full(3, 2, 1), c.a, api.Matrix{}, api.Grad{}, c.told)
			mustBack(t, c.name, l, full(13, 2, 1), c.a, api.Matrix{}, api.Grad{}, c.told)
		}
		for _, g := range []api.Matrix{
			{}, of(0, made.Cols), of(made.Rows, 0), full(2, made.Cols, 1), full(4, made.Cols, 1),
			full(3, made.Cols-1, 1), full(3, made.Cols+1, 1), full(made.Cols, 3, 1), full(1, 3*made.Cols, 1),
		} {
			if same(g, full(3, made.Cols, 1)) {
				continue
			}
			mustBack(t, "not the shape", l, full(3, 2, 1), g, api.Matrix{}, api.Grad{}, api.ErrShape)
		}
		mustBack(t, "the shape, then too many rows", l, full(13, 2, 1), full(12, made.Cols, 1), api.Matrix{}, api.Grad{}, api.ErrShape)
	}
	mustBack(t, "the shape of x", layers()[0], full(3, 2, 1), full(3, 2, 1), api.Matrix{}, api.Grad{}, api.ErrShape)
	mustBack(t, "no rows", reluOf(), of(0, 2), of(0, 3), api.Matrix{}, api.Grad{}, api.ErrShape)
	mustBack(t, "no columns", reluOf(), of(2, 0), of(3, 0), api.Matrix{}, api.Grad{}, api.ErrShape)
}

// TestL3MoreRowsThanMaxSide: Linear alone refuses them, and on the way back alone.
func TestL3MoreRowsThanMaxSide(t *testing.T) {
	for rows := 11; rows <= api.MaxRows; rows++ {
		x := full(rows, 2, 256)
		for _, l := range layers() {
			made, err := Go(l, x)
			mustTell(t, "Go", err, api.OK)
			toX, grad, err := Back(l, x, made)
			if l.Kind == api.Linear && rows > api.MaxSide {
				mustBack(t, "more rows", l, x, made, api.Matrix{}, api.Grad{}, api.ErrRange)
				continue
			}
			if mat.Check(toX) != nil || toX.Rows != rows || toX.Cols != 2 || !sameGrad(grad, backSlowly(l, x, made).grad) || err != nil {
				t.Errorf("Back of Kind %d, %d rows: %v, %v, %v", l.Kind, rows, toX, grad, err)
			}
		}
	}
}

// ended and times are fix's, once more: a shift to the right rounds down.
func ended(x int) int { return min(max(x, -top), top) }

func times(a, b int) int { return ended((a * b) >> 8) }

func cell(a api.Matrix, i, j int) int { return a.Cells[i*a.Cols+j] }

// goSlowly is L2's Go, once more, cell by cell.
func goSlowly(l api.Layer, x api.Matrix) api.Matrix {
	y := full(x.Rows, x.Cols, 0)
	if l.Kind == api.Linear {
		y = full(x.Rows, l.W.Cols, 0)
	}
	for i := range y.Rows {
		for j := range y.Cols {
			c := 0
			switch l.Kind {
			case api.Linear:
				for k := range x.Cols {
					c = ended(c + times(cell(x, i, k), cell(l.W, k, j)))
				}
				c = ended(c + l.B.Cells[j])
			case api.Relu:
				if cell(x, i, j) > 0 {
					c = cell(x, i, j)
				}
			case api.Scale:
				c = times(cell(x, i, j), l.W.Cells[0])
			case api.Shift:
				c = ended(cell(x, i, j) + l.B.Cells[j])
			}
			y.Cells[i*y.Cols+j] = c
		}
	}
	return y
}

type answer struct {
	toX  api.Matrix
	grad api.Grad
}

// backSlowly is L3's Back, once more, cell by cell.
func backSlowly(l api.Layer, x, g api.Matrix) answer {
	a := answer{toX: full(x.Rows, x.Cols, 0)}
	if l.Kind == api.Linear {
		a.grad.W = full(l.W.Rows, l.W.Cols, 0)
	}
	if l.Kind == api.Scale {
		a.grad.W = full(1, 1, 0)
	}
	if l.Kind == api.Linear || l.Kind == api.Shift {
		a.grad.B = full(1, g.Cols, 0)
	}
	for i := range x.Rows {
		for j := range g.Cols {
			backOfCell(&a, l, x, g, i, j)
		}
	}
	return a
}

// backOfCell adds what one cell of g tells.
func backOfCell(a *answer, l api.Layer, x, g api.Matrix, i, j int) {
	d := cell(g, i, j)
	switch l.Kind {
	case api.Linear:
		for k := range x.Cols {
			to, w := &a.toX.Cells[i*x.Cols+k], &a.grad.W.Cells[k*g.Cols+j]
			*to = ended(*to + times(d, cell(l.W, k, j)))
			*w = ended(*w + times(cell(x, i, k), d))
		}
	case api.Relu:
		if cell(x, i, j) > 0 {
			a.toX.Cells[i*x.Cols+j] = d
		}
	case api.Scale:
		a.toX.Cells[i*x.Cols+j] = times(d, l.W.Cells[0])
		a.grad.W.Cells[0] = ended(a.grad.W.Cells[0] + times(cell(x, i, j), d))
	case api.Shift:
		a.toX.Cells[i*x.Cols+j] = d
	}
	if a.grad.B.Rows == 1 {
		a.grad.B.Cells[j] = ended(a.grad.B.Cells[j] + d)
	}
}

func TestL2AndL3ToTheLastBit(t *testing.T) {
	r := rand.New(rand.NewSource(3))
	for range 400 {
		for _, kind := range kinds() {
			cols := 1 + r.Intn(api.MaxSide)
			l, x := someLayer(r, kind, cols), some(r, r.Intn(api.MaxRows+1), cols)
			y := goSlowly(l, x)
			mustGo(t, "some", l, x, y, api.OK)
			mustWide(t, "some", l, cols, y.Cols, api.OK)
			x = some(r, r.Intn(api.MaxSide+1), cols)
			g := some(r, x.Rows, y.Cols)
			want := backSlowly(l, x, g)
			mustBack(t, "some", l, x, g, want.toX, want.grad, api.OK)
		}
	}
}

// TestL4RowsDoNotMind: some rows there and back are those rows of the whole.
func TestL4RowsDoNotMind(t *testing.T) {
	r := rand.New(rand.NewSource(4))
	rowsOf := func(a api.Matrix, from, to int) api.Matrix {
		part, err := mat.Rows(a, from, to)
		if err != nil {
			t.Fatal(err)
		}
		return part
	}
	for range 200 {
		for _, kind := range kinds() {
			cols := 1 + r.Intn(api.MaxSide)
			l, x := someLayer(r, kind, cols), some(r, r.Intn(api.MaxSide+1), cols)
			y, err := Go(l, x)
			mustTell(t, "Go", err, api.OK)
			g := some(r, y.Rows, y.Cols)
			toX, _, err := Back(l, x, g)
			mustTell(t, "Back", err, api.OK)
			to := r.Intn(x.Rows + 1)
			from := r.Intn(to + 1)
			part := rowsOf(x, from, to)
			mustGo(t, "some rows", l, part, rowsOf(y, from, to), api.OK)
			got, _, err := Back(l, part, rowsOf(g, from, to))
			if !same(got, rowsOf(toX, from, to)) || err != nil {
				t.Errorf("Back of rows %d to %d of %v, %v, %v: %v, %v", from, to, l, x, g, got, err)
			}
		}
	}
}

func TestL4ReluTwice(t *testing.T) {
	r := rand.New(rand.NewSource(5))
	for range 200 {
		once, err := Go(reluOf(), some(r, r.Intn(25), r.Intn(13)))
		mustTell(t, "Relu", err, api.OK)
		mustGo(t, "Relu twice", reluOf(), once, once, api.OK)
	}
}

// doubtful has matrices of all sorts, right and wrong of themselves.
func doubtful() []api.Matrix {
	return []api.Matrix{
		{}, of(0, 1), of(0, 2), of(1, 0), of(13, 0), of(1, 1, 256), of(1, 2, -1, 1), of(2, 1, 3, top), of(2, 2, 1, -top, 0, 4),
		full(13, 1, 1), full(13, 2, 1), of(1, 2, 1), of(1, 1, top+1), of(-1, 0),
	}
}

type claim struct {
	holds bool
	told  api.Errno
}

// firstOf gives what is told first, or OK.
func firstOf(claims ...claim) api.Errno {
	for _, c := range claims {
		if c.holds && c.told != api.OK {
			return c.told
		}
	}
	return api.OK
}

func wrongOfItself(a api.Matrix) claim { return claim{true, plain.Told(mat.Check(a))} }

func fitsSlowly(l api.Layer) bool {
	noW, noB := l.W.Rows == 0 && l.W.Cols == 0, l.B.Rows == 0 && l.B.Cols == 0
	rowB := l.B.Rows == 1 && l.B.Cols > 0 && l.B.Cols < 13
	switch l.Kind {
	case api.Linear:
		return l.W.Rows > 0 && l.W.Rows < 13 && l.W.Cols > 0 && l.W.Cols < 13 && rowB && l.B.Cols == l.W.Cols
	case api.Relu:
		return noW && noB
	case api.Scale:
		return l.W.Rows == 1 && l.W.Cols == 1 && noB
	}
	return noW && rowB
}

func ofLayer(l api.Layer) api.Errno {
	return firstOf(claim{l.Kind < 1 || l.Kind > 4, api.ErrRange}, wrongOfItself(l.W), wrongOfItself(l.B), claim{!fitsSlowly(l), api.ErrShape})
}

func notItsColumns(l api.Layer, cols int) bool {
	return l.Kind == api.Linear && cols != l.W.Rows || l.Kind == api.Shift && cols != l.B.Cols
}

// TestP1AllSorts asks all calls of all that can be put together of doubtful
// ones, and holds them against the chapter's order of what is told.
func TestP1AllSorts(t *testing.T) {
	for kind := range 6 {
		for _, w := range doubtful() {
			for _, b := range doubtful() {
				l := api.Layer{Kind: kind, W: w, B: b}
				told := ofLayer(l)
				mustTell(t, fmt.Sprint("Check of ", l), Check(l), told)
				for in := -1; in <= 13; in++ {
					mustTellOfWide(t, l, in, firstOf(claim{true, told}, claim{in < 0 || in > 12, api.ErrRange}, claim{notItsColumns(l, in), api.ErrShape}))
				}
				for _, x := range doubtful() {
					ofGo := firstOf(claim{true, told}, wrongOfItself(x), claim{notItsColumns(l, x.Cols), api.ErrShape})
					checkGoAndBack(t, l, x, ofGo)
				}
			}
		}
	}
}

func mustTellOfWide(t *testing.T, l api.Layer, in int, told api.Errno) {
	t.Helper()
	want := 0
	if told == api.OK {
		want = goSlowly(l, full(1, in, 0)).Cols
	}
	mustWide(t, "all sorts", l, in, want, told)
}

func checkGoAndBack(t *testing.T, l api.Layer, x api.Matrix, ofGo api.Errno) {
	t.Helper()
	made := api.Matrix{}
	if ofGo == api.OK {
		made = goSlowly(l, x)
	}
	mustGo(t, "all sorts", l, x, made, ofGo)
	for _, g := range doubtful() {
		ofBack := firstOf(claim{true, ofGo}, wrongOfItself(g),
			claim{g.Rows != made.Rows || g.Cols != made.Cols, api.ErrShape},
			claim{l.Kind == api.Linear && x.Rows > 12, api.ErrRange})
		want := answer{}
		if ofBack == api.OK {
			want = backSlowly(l, x, g)
		}
		mustBack(t, "all sorts", l, x, g, want.toX, want.grad, ofBack)
	}
}

// memory hands out lists with something behind them, and tells whether any of it was written into.
type memory struct{ lists, before [][]int }

func (m *memory) lay(a api.Matrix) api.Matrix {
	list := append(slices.Clone(a.Cells), 91, 92, 93, 94)
	m.lists, m.before = append(m.lists, list), append(m.before, slices.Clone(list))
	a.Cells = list[:len(a.Cells)]
	return a
}

func (m *memory) stays(t *testing.T, name string) {
	t.Helper()
	for i := range m.lists {
		if !slices.Equal(m.lists[i], m.before[i]) {
			t.Errorf("%s: list %d was %v and is %v", name, i, m.before[i], m.lists[i])
		}
	}
}

// scribble writes into all the memory of an answer, also behind its length.
func scribble(a api.Matrix) {
	all := a.Cells[:cap(a.Cells)]
	for i := range all {
		all[i] = -7
	}
}

// TestP2ListsStay: what is handed in stays as it is, and what comes out shares memory with nothing.
func TestP2ListsStay(t *testing.T) {
	r := rand.New(rand.NewSource(6))
	for _, kind := range kinds() {
		for _, rows := range []int{0, 1, 3, 12} {
			name := fmt.Sprintf("Kind %d, %d rows", kind, rows)
			var m memory
			l := someLayer(r, kind, 3)
			l.W, l.B = m.lay(l.W), m.lay(l.B)
			x := m.lay(some(r, rows, 3))
			want := goSlowly(l, x)
			g := m.lay(some(r, rows, want.Cols))
			back := backSlowly(l, x, g)
			y, err := Go(l, x)
			mustTell(t, name, err, api.OK)
			toX, grad, err := Back(l, x, g)
			mustTell(t, name, err, api.OK)
			for i, c := range []struct{ got, want api.Matrix }{{y, want}, {toX, back.toX}, {grad.W, back.grad.W}, {grad.B, back.grad.B}} {
				if !same(c.got, c.want) {
					t.Errorf("%s: answer %d is %v, want %v", name, i, c.got, c.want)
				}
				scribble(c.got)
			}
			m.stays(t, name)
			mustGo(t, name, l, x, want, api.OK)
			mustBack(t, name, l, x, g, back.toX, back.grad, api.OK)
		}
	}
}

// TestP2TheSameListTwice: one list may be handed in as all of them.
func TestP2TheSameListTwice(t *testing.T) {
	var m memory
	a := m.lay(of(1, 1, 512))
	for _, l := range []api.Layer{{Kind: api.Linear, W: a, B: a}, {Kind: api.Relu}, {Kind: api.Scale, W: a}, {Kind: api.Shift, B: a}} {
		mustGo(t, "all the same", l, a, goSlowly(l, a), api.OK)
		want := backSlowly(l, a, a)
		mustBack(t, "all the same", l, a, a, want.toX, want.grad, api.OK)
	}
	m.stays(t, "all the same")
}

// TestP2RefusedListsStay: nor is anything written where a call refuses.
func TestP2RefusedListsStay(t *testing.T) {
	var m memory
	l := linearOf(m.lay(full(2, 3, 1)), m.lay(full(1, 3, 1)))
	x, g := m.lay(full(13, 2, 1)), m.lay(full(13, 3, 1))
	mustBack(t, "more rows", l, x, g, api.Matrix{}, api.Grad{}, api.ErrRange)
	mustGo(t, "not its columns", l, g, api.Matrix{}, api.ErrShape)
	m.stays(t, "refused")
}
