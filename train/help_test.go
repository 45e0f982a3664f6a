package train

import (
	"math"
	"math/rand"
	"slices"
	"testing"

	"galley/api"
	"galley/plain"
)

const top = api.Top

// of makes a matrix of what it is told, right or wrong.
func of(rows, cols int, cells ...int) api.Matrix {
	return api.Matrix{Rows: rows, Cols: cols, Cells: cells}
}

// full makes a matrix of which all cells are the same.
func full(rows, cols, x int) api.Matrix {
	return api.Matrix{Rows: rows, Cols: cols, Cells: slices.Repeat([]int{x}, rows*cols)}
}

// some makes a matrix of small numbers, or of such that sums come to an end.
func some(r *rand.Rand, rows, cols int) api.Matrix {
	a := full(rows, cols, 0)
	bound := []int{3, 300, 300, 1000, 1 << 20, top}[r.Intn(6)]
	for i := range a.Cells {
		a.Cells[i] = r.Intn(2*bound+1) - bound
	}
	return a
}

func linearOf(w, b api.Matrix) api.Layer { return api.Layer{Kind: api.Linear, W: w, B: b} }

func reluOf() api.Layer { return api.Layer{Kind: api.Relu} }

func scaleOf(x int) api.Layer { return api.Layer{Kind: api.Scale, W: of(1, 1, x)} }

func shiftOf(cells ...int) api.Layer {
	return api.Layer{Kind: api.Shift, B: of(1, len(cells), cells...)}
}

func netOf(l ...api.Layer) []api.Layer { return l }

func gradsOf(d ...api.Grad) []api.Grad { return d }

func stateOf(n []api.Layer, speed []api.Grad, steps int) State { return State{n, speed, steps} }

func batchOf(in, want api.Matrix) api.Batch { return api.Batch{In: in, Want: want} }

func batches(l ...api.Batch) []api.Batch { return l }

func rates(learn, keep int) api.Rates { return api.Rates{Learn: learn, Keep: keep} }

// column makes one of so many rows.
func column(cells ...int) api.Matrix { return of(len(cells), 1, cells...) }

// someNet is one of so many layers that takes so many columns; it tells how many come of them.
func someNet(r *rand.Rand, count, cols int) ([]api.Layer, int) {
	var n []api.Layer
	for range count {
		kind := r.Intn(4)
		if cols == 0 {
			kind = 1 + r.Intn(2)
		}
		switch kind {
		case 0:
			out := 1 + r.Intn(api.MaxSide)
			n = append(n, linearOf(some(r, cols, out), some(r, 1, out)))
			cols = out
		case 1:
			n = append(n, reluOf())
		case 2:
			n = append(n, api.Layer{Kind: api.Scale, W: some(r, 1, 1)})
		case 3:
			n = append(n, api.Layer{Kind: api.Shift, B: some(r, 1, cols)})
		}
	}
	return n, cols
}

// someSpeed has the shapes of the layers.
func someSpeed(r *rand.Rand, n []api.Layer) []api.Grad {
	var grads []api.Grad
	for _, l := range n {
		grads = append(grads, api.Grad{W: some(r, l.W.Rows, l.W.Cols), B: some(r, l.B.Rows, l.B.Cols)})
	}
	return grads
}

// someRates are at the ends as often as between them.
func someRates(r *rand.Rand) api.Rates {
	one := func() int {
		return []int{0, 1, api.One - 1, api.One, r.Intn(api.One + 1), r.Intn(api.One + 1)}[r.Intn(6)]
	}
	return rates(one(), one())
}

// someAsked is right, of so many layers and rows.
func someAsked(r *rand.Rand, layers, rows int) asked {
	in := r.Intn(api.MaxSide + 1)
	n, out := someNet(r, layers, in)
	least, most := (rows+api.MaxSide-1)/api.MaxSide, min(rows, api.MaxMicros)
	return asked{
		s:     stateOf(n, someSpeed(r, n), r.Intn(1000)),
		b:     batchOf(some(r, rows, in), some(r, rows, out)),
		parts: least + r.Intn(most-least+1),
		r:     someRates(r),
	}
}

func same(a, b api.Matrix) bool {
	return a.Rows == b.Rows && a.Cols == b.Cols && slices.Equal(a.Cells, b.Cells)
}

func sameNet(a, b []api.Layer) bool {
	return slices.EqualFunc(a, b, func(x, y api.Layer) bool {
		return x.Kind == y.Kind && same(x.W, y.W) && same(x.B, y.B)
	})
}

func sameGrads(a, b []api.Grad) bool {
	return slices.EqualFunc(a, b, func(x, y api.Grad) bool { return same(x.W, y.W) && same(x.B, y.B) })
}

func sameState(a, b State) bool {
	return sameNet(a.Net, b.Net) && sameGrads(a.Speed, b.Speed) && a.Steps == b.Steps
}

func mustCheck(t *testing.T, name string, s State, told api.Errno) {
	t.Helper()
	if err := Check(s); plain.Told(err) != told {
		t.Errorf("%s: Check(%v) = %v, want %v", name, s, err, told)
	}
}

// asked is what One is handed.
type asked struct {
	s     State
	b     api.Batch
	parts int
	r     api.Rates
}

func (a asked) must(t *testing.T, name string, want State, off int, told api.Errno) {
	t.Helper()
	s, n, err := One(a.s, a.b, a.parts, a.r)
	if !sameState(s, want) || n != off || plain.Told(err) != told {
		t.Errorf("%s: One(%v) =\n%v, %d, %v; want\n%v, %d, %v", name, a, s, n, err, want, off, told)
	}
	if err := CheckOne(a.s, a.b, a.parts, a.r); plain.Told(err) != told {
		t.Errorf("%s: CheckOne(%v) = %v, want %v", name, a, err, told)
	}
}

// mustSlowly holds One, and All of its one batch, against what was said once more.
func (a asked) mustSlowly(t *testing.T, name string) {
	t.Helper()
	want, off := oneSlowly(a)
	a.must(t, name, want, off, api.OK)
	mustAll(t, name, a, batches(a.b), want, []int{off}, api.OK)
}

// refuse holds that nothing stands beside the error, nor where what is refused
// is the first of some batches.
func (a asked) refuse(t *testing.T, name string, told api.Errno) {
	t.Helper()
	a.must(t, name, State{}, 0, told)
	refuseAll(t, name+", by All", a, batches(a.b), told)
	refuseAll(t, name+", ahead of another", a, batches(a.b, small().b), told)
	refuseAll(t, name+", ahead of a wrong one", a, batches(a.b, api.Batch{}, batchOf(of(-1, 0), of(1, 1))), told)
}

// mustAll asks for other batches than a's own.
func mustAll(t *testing.T, name string, a asked, l []api.Batch, want State, offs []int, told api.Errno) {
	t.Helper()
	s, got, err := All(a.s, l, a.parts, a.r)
	if !sameState(s, want) || !slices.Equal(got, offs) || plain.Told(err) != told {
		t.Errorf("%s: All(%v, %v, %v, %v) =\n%v, %v, %v; want\n%v, %v, %v", name, a.s, l, a.parts, a.r, s, got, err, want, offs, told)
	}
}

func refuseAll(t *testing.T, name string, a asked, l []api.Batch, told api.Errno) {
	t.Helper()
	mustAll(t, name, a, l, State{}, nil, told)
}

// small has each Kind, and nothing is wrong with it; what it gives is its caller's to spoil.
func small() asked {
	return asked{
		s: stateOf(
			netOf(linearOf(of(2, 3, 256, 100, -50, 0, 300, 256), of(1, 3, 10, -10, 1)), reluOf(), scaleOf(200), shiftOf(-5, 5, 0)),
			gradsOf(api.Grad{W: of(2, 3, 10, 20, 30, -10, -20, -30), B: of(1, 3, 0, 1, -1)}, api.Grad{}, api.Grad{W: of(1, 1, -7)}, api.Grad{B: of(1, 3, 100, 3, 0)}),
			7),
		b: batchOf(
			of(5, 2, 256, 512, 0, -256, 100, 1, -300, 80, 77, 33),
			of(5, 3, 256, 0, 0, 0, 256, 0, 0, 0, 256, -100, -100, 100, 1, 2, 3)),
		parts: 2,
		r:     rates(64, 128),
	}
}

// line is a state of a net of one number, and a batch of rows of one number each.
func line(l api.Layer, in, want api.Matrix, parts int, r api.Rates) asked {
	return asked{Begin(netOf(l)), batchOf(in, want), parts, r}
}

type refused struct {
	name string
	a    api.Matrix
	told api.Errno
}

// wrong has matrices that are wrong of themselves.
func wrong() []refused {
	return []refused{
		{"Rows below 0", of(-1, 2, 1, 2), api.ErrRange},
		{"Cols below 0", of(2, -1, 1, 2), api.ErrRange},
		{"both below 0, as many cells", of(-1, -2, 1, 2), api.ErrRange},
		{"Rows above MaxRows", full(api.MaxRows+1, 2, 0), api.ErrRange},
		{"Rows far below 0", of(math.MinInt, 2), api.ErrRange},
		{"Cols above MaxSide", full(1, api.MaxSide+1, 0), api.ErrRange},
		{"a product that wraps round", of(1<<32, 1<<32), api.ErrRange},
		{"a cell too few", of(2, 2, 1, 2, 3), api.ErrShape},
		{"a cell too many", of(1, 2, 1, 2, 3), api.ErrShape},
		{"a cell and no rows", of(0, 2, 1), api.ErrShape},
		{"a cell above Top", of(1, 2, 0, top+1), api.ErrRange},
		{"a cell below -Top", of(1, 2, -top-1, 0), api.ErrRange},
		{"a cell far below", of(2, 2, 0, 0, 0, math.MinInt), api.ErrRange},
	}
}

type refusedLayer struct {
	name string
	l    api.Layer
	told api.Errno
}

// wrongLayers has layers that are wrong of themselves.
func wrongLayers() []refusedLayer {
	return []refusedLayer{
		{"no Kind", api.Layer{}, api.ErrRange},
		{"no such Kind", api.Layer{Kind: 5}, api.ErrRange},
		{"a Kind below 0, and W", api.Layer{Kind: -1, W: of(1, 1)}, api.ErrRange},
		{"W of too few cells", linearOf(of(2, 2, 1), full(1, 2, 1)), api.ErrShape},
		{"W's cell", linearOf(of(2, 2, 0, 0, 0, top+1), full(1, 2, 1)), api.ErrRange},
		{"B's cell", api.Layer{Kind: api.Shift, B: of(1, 2, 0, -top-1)}, api.ErrRange},
		{"B's Cols", api.Layer{Kind: api.Shift, B: full(1, 13, 0)}, api.ErrRange},
		{"W of Relu", api.Layer{Kind: api.Relu, W: of(1, 1, 1)}, api.ErrShape},
		{"W of Relu without rows", api.Layer{Kind: api.Relu, W: of(0, 1)}, api.ErrShape},
		{"no W of Scale", api.Layer{Kind: api.Scale}, api.ErrShape},
		{"B of Linear", linearOf(full(2, 2, 1), full(1, 3, 1)), api.ErrShape},
		{"W of Linear of too many rows", linearOf(full(13, 2, 1), full(1, 2, 1)), api.ErrShape},
		{"W far below 0", api.Layer{Kind: api.Scale, W: of(math.MinInt, math.MinInt)}, api.ErrRange},
	}
}
