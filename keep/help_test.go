package keep

import (
	"encoding/binary"
	"math/rand"
	"slices"
	"testing"

	"galley/api"
	"galley/plain"
	"galley/train"
)

const top = api.Top

// of makes a matrix of what it is told, right or wrong.
func of(rows, cols int, cells ...int) api.Matrix {
	return api.Matrix{Rows: rows, Cols: cols, Cells: cells}
}

// full makes a matrix of which all cells are the same.
func full(rows, cols, x int) api.Matrix { return of(rows, cols, slices.Repeat([]int{x}, rows*cols)...) }

func linearOf(w, b api.Matrix) api.Layer { return api.Layer{Kind: api.Linear, W: w, B: b} }

func reluOf() api.Layer { return api.Layer{Kind: api.Relu} }

func scaleOf(x int) api.Layer { return api.Layer{Kind: api.Scale, W: of(1, 1, x)} }

func shiftOf(cells ...int) api.Layer {
	return api.Layer{Kind: api.Shift, B: of(1, len(cells), cells...)}
}

func netOf(l ...api.Layer) []api.Layer { return l }

func gradsOf(d ...api.Grad) []api.Grad { return d }

func stateOf(n []api.Layer, speed []api.Grad, steps int) train.State {
	return train.State{Net: n, Speed: speed, Steps: steps}
}

// small has each Kind, and nothing is wrong with it; what it gives is its caller's to spoil.
func small() train.State {
	return stateOf(
		netOf(linearOf(of(2, 3, 256, 100, -50, 0, 300, 256), of(1, 3, 10, -10, 1)), reluOf(), scaleOf(200), shiftOf(-5, 5, 0)),
		gradsOf(api.Grad{W: of(2, 3, 10, 20, 30, -10, -20, -30), B: of(1, 3, 0, 1, -1)}, api.Grad{}, api.Grad{W: of(1, 1, -7)}, api.Grad{B: of(1, 3, 100, 3, 0)}),
		7)
}

// greatest has as many bytes as a state may have.
func greatest() train.State {
	w, b := full(12, 12, -top), full(1, 12, top)
	return stateOf(slices.Repeat(netOf(linearOf(w, b)), 12), slices.Repeat(gradsOf(api.Grad{W: w, B: b}), 12), 1e9)
}

// bytesOf has bytes that are told as numbers.
func bytesOf(list ...int) []byte {
	var b []byte
	for _, x := range list {
		b = append(b, byte(x))
	}
	return b
}

// slowSums takes each byte as often as there are sums that it is in, and what
// is left at the very end.
func slowSums(b []byte) []byte {
	var whole, ofSums int
	for i, x := range b {
		whole += int(x)
		ofSums += (len(b) - i) * int(x)
	}
	return bytesOf(whole%255, ofSums%255)
}

// summed has bytes, and their sums behind them.
func summed(parts ...[]byte) []byte {
	b := slices.Concat(parts...)
	return append(b, slowSums(b)...)
}

// slowNumber and slowCell write by the library, whose form is the same.
func slowNumber(x uint64) []byte { return binary.AppendUvarint(nil, x) }

func slowCell(x int) []byte { return binary.AppendVarint(nil, int64(x)) }

// matricesOf has those of layer i in the order in which they are kept.
func matricesOf(s train.State, i int) []*api.Matrix {
	return []*api.Matrix{&s.Net[i].W, &s.Net[i].B, &s.Speed[i].W, &s.Speed[i].B}
}

// parts has the bytes of each number of a state by itself, the first two bytes
// ahead of them, and not the sums.
func parts(s train.State) [][]byte {
	list := [][]byte{{71}, {1}, slowNumber(uint64(s.Steps)), slowNumber(uint64(len(s.Net)))}
	for i := range s.Net {
		list = append(list, slowNumber(uint64(s.Net[i].Kind)))
		for _, a := range matricesOf(s, i) {
			list = append(list, slowNumber(uint64(a.Rows)), slowNumber(uint64(a.Cols)))
			for _, x := range a.Cells {
				list = append(list, slowCell(x))
			}
		}
	}
	return list
}

// slowSave takes what has as many speeds as layers.
func slowSave(s train.State) []byte { return summed(parts(s)...) }

// slowReader reads by the library whatever it takes, and 0 where it takes nothing.
type slowReader struct{ rest []byte }

func (r *slowReader) number() int {
	x, n := binary.Uvarint(r.rest)
	r.rest = r.rest[max(n, 0):]
	return int(x)
}

func (r *slowReader) cell() int {
	x, n := binary.Varint(r.rest)
	r.rest = r.rest[max(n, 0):]
	return int(x)
}

func (r *slowReader) matrix() api.Matrix {
	a := api.Matrix{Rows: r.number(), Cols: r.number()}
	if a.Rows < 0 || a.Rows > 24 || a.Cols < 0 || a.Cols > 12 {
		return api.Matrix{}
	}
	for range a.Rows * a.Cols {
		a.Cells = append(a.Cells, r.cell())
	}
	return a
}

// slowLoad reads what may be a state, and holds its bytes against those that
// were handed in: it is false where there is none that has these.
func slowLoad(b []byte) (train.State, bool) {
	if len(b) < 2 {
		return train.State{}, false
	}
	r := slowReader{b[2:]}
	s := train.State{Steps: r.number()}
	for range min(r.number(), 12) {
		s.Net = append(s.Net, api.Layer{Kind: r.number(), W: r.matrix(), B: r.matrix()})
		s.Speed = append(s.Speed, api.Grad{W: r.matrix(), B: r.matrix()})
	}
	return s, train.Check(s) == nil && slices.Equal(b, slowSave(s))
}

func same(a, b api.Matrix) bool {
	return a.Rows == b.Rows && a.Cols == b.Cols && slices.Equal(a.Cells, b.Cells)
}

func sameState(a, b train.State) bool {
	return a.Steps == b.Steps &&
		slices.EqualFunc(a.Net, b.Net, func(x, y api.Layer) bool {
			return x.Kind == y.Kind && same(x.W, y.W) && same(x.B, y.B)
		}) &&
		slices.EqualFunc(a.Speed, b.Speed, func(x, y api.Grad) bool { return same(x.W, y.W) && same(x.B, y.B) })
}

// isNothing: nothing stands beside an error.
func isNothing(s train.State) bool { return len(s.Net) == 0 && len(s.Speed) == 0 && s.Steps == 0 }

func mustSave(t *testing.T, name string, s train.State, want []byte) {
	t.Helper()
	if got, err := Save(s); err != nil || !slices.Equal(got, want) {
		t.Errorf("%s: Save(%v) = %v, %v, want %v", name, s, got, err, want)
	}
}

func refuseSave(t *testing.T, name string, s train.State, told api.Errno) {
	t.Helper()
	if got, err := Save(s); len(got) != 0 || plain.Told(err) != told {
		t.Errorf("%s: Save(%v) = %v, %v, want nothing and %v", name, s, got, err, told)
	}
}

func mustLoad(t *testing.T, name string, b []byte, want train.State) {
	t.Helper()
	if got, err := Load(b); err != nil || !sameState(got, want) {
		t.Errorf("%s: Load(%v) = %v, %v, want %v", name, b, got, err, want)
	}
}

func refuseLoad(t *testing.T, name string, b []byte) {
	t.Helper()
	if got, err := Load(b); !isNothing(got) || plain.Told(err) != api.ErrSyntax {
		t.Errorf("%s: Load(%v) = %v, %v, want nothing and ErrSyntax", name, b, got, err)
	}
}

// mustBoth holds Save and Load of a state against its bytes.
func mustBoth(t *testing.T, name string, s train.State, b []byte) {
	t.Helper()
	mustSave(t, name, s, b)
	mustLoad(t, name, b, s)
}

// mustBeAsSlow holds Load against slowLoad, and tells whether there is a state.
func mustBeAsSlow(t *testing.T, name string, b []byte) bool {
	t.Helper()
	want, ok := slowLoad(b)
	if !ok {
		refuseLoad(t, name, b)
		return false
	}
	mustLoad(t, name, b, want)
	return true
}

// edges are cells at which something changes: how many bytes they have, on
// which side of 0 they are, and that they end.
func edges() []int {
	list := []int{0}
	for bits := range 32 {
		for _, x := range []int{1<<bits - 1, 1 << bits, 1<<bits + 1} {
			if x <= top {
				list = append(list, x, -x)
			}
		}
	}
	return list
}

func someCell(r *rand.Rand) int {
	switch all := edges(); r.Intn(3) {
	case 0:
		return all[r.Intn(len(all))]
	case 1:
		return r.Intn(201) - 100
	}
	return r.Intn(2*top+1) - top
}

func some(r *rand.Rand, rows, cols int) api.Matrix {
	a := full(rows, cols, 0)
	for i := range a.Cells {
		a.Cells[i] = someCell(r)
	}
	return a
}

// someLayer is of a Kind, for so many columns; it tells how many come of them.
func someLayer(r *rand.Rand, kind, cols int) (api.Layer, int) {
	switch kind {
	case api.Linear:
		out := 1 + r.Intn(api.MaxSide)
		return linearOf(some(r, cols, out), some(r, 1, out)), out
	case api.Scale:
		return scaleOf(someCell(r)), cols
	case api.Shift:
		return shiftOf(some(r, 1, cols).Cells...), cols
	}
	return reluOf(), cols
}

// someState has so many layers, whose columns go together and begin with these;
// all Kinds come in turn, from the first one on.
func someState(r *rand.Rand, layers, first, cols int) train.State {
	s := train.State{Steps: []int{0, 1, 127, 128, r.Intn(1e9), 999999999}[r.Intn(6)]}
	for i := range layers {
		var l api.Layer
		l, cols = someLayer(r, 1+(first+i)%4, cols)
		s.Net = append(s.Net, l)
		s.Speed = append(s.Speed, api.Grad{W: some(r, l.W.Rows, l.W.Cols), B: some(r, l.B.Rows, l.B.Cols)})
	}
	return s
}

// right are states of all sorts with which nothing is wrong.
func right() []train.State {
	list := []train.State{{}, {Steps: 1e9}, small(), greatest(), train.Begin(small().Net)}
	r := rand.New(rand.NewSource(1))
	for layers := range api.MaxLayers + 1 {
		for first := range 4 {
			list = append(list, someState(r, layers, first, 1+r.Intn(api.MaxSide)))
		}
	}
	return list
}

// littleOnes are those of right that have few bytes.
func littleOnes() []train.State {
	var list []train.State
	for _, s := range right() {
		if len(slowSave(s)) < 120 {
			list = append(list, s)
		}
	}
	return list
}
