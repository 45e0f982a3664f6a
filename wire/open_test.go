package wire

import (
	"fmt"
	"math"
	"math/rand"
	"slices"
	"testing"

	"galley/api"
	"galley/plain"
)

// matrixBytes has those of a message's Body.
func matrixBytes(m api.Message) []byte { return slices.Concat(parts(m)[2:]...) }

func sameMatrix(a, b api.Matrix) bool {
	return a.Rows == b.Rows && a.Cols == b.Cols && slices.Equal(a.Cells, b.Cells)
}

func refuseReading(t *testing.T, name string, b []byte) {
	t.Helper()
	if a, n, err := ReadMatrix(b); !sameMatrix(a, api.Matrix{}) || n != 0 || plain.Told(err) != api.ErrSyntax {
		t.Errorf("%s: ReadMatrix(%v) = %v, %d, %v, want nothing and ErrSyntax", name, b, a, n, err)
	}
}

// TestW1NumbersStandOpen: they are written and read as those of messages.
func TestW1NumbersStandOpen(t *testing.T) {
	r := rand.New(rand.NewSource(11))
	for bits := range 64 {
		for _, x := range []int{1<<bits - 1, math.MaxInt >> bits, int(r.Uint64() >> 1 >> bits)} {
			b := slowNumber(uint64(x))
			if got := WriteNumber(x); !slices.Equal(got, b) {
				t.Errorf("WriteNumber(%d) = %v, want %v", x, got, b)
			}
			for _, behind := range [][]byte{nil, {0}, {255}} {
				if got, n, err := ReadNumber(slices.Concat(b, behind)); got != x || n != len(b) || err != nil {
					t.Errorf("ReadNumber(%v) = %d, %d, %v, want %d", b, got, n, err, x)
				}
			}
		}
	}
	for _, b := range [][]byte{nil, {128}, {128, 0}, {255, 255, 0}, slices.Repeat([]byte{128}, 9), append(slices.Repeat([]byte{128}, 9), 1)} {
		if got, n, err := ReadNumber(b); got != 0 || n != 0 || plain.Told(err) != api.ErrSyntax {
			t.Errorf("ReadNumber(%v) = %d, %d, %v, want ErrSyntax", b, got, n, err)
		}
	}
}

// TestW1MatricesStandOpen: they are written and read as those of messages.
func TestW1MatricesStandOpen(t *testing.T) {
	for i, m := range right() {
		name, b := fmt.Sprint("message ", i), matrixBytes(m)
		if got := WriteMatrix(m.Body); !slices.Equal(got, b) {
			t.Errorf("%s: WriteMatrix(%v) = %v, want %v", name, m.Body, got, b)
		}
		for _, behind := range [][]byte{nil, {0}, {255}, b} {
			if got, n, err := ReadMatrix(slices.Concat(b, behind)); !sameMatrix(got, m.Body) || n != len(b) || err != nil {
				t.Errorf("%s: ReadMatrix(%v) = %v, %d, %v, want %v", name, b, got, n, err, m.Body)
			}
		}
		for long := range min(len(b), 40) {
			refuseReading(t, name, b[:long])
		}
		refuseReading(t, name, b[:len(b)-1])
	}
	for _, size := range [][2]uint64{{25, 0}, {0, 13}, {25, 13}, {1 << 32, 1 << 32}, {math.MaxInt, 0}, {0, math.MaxInt}, {1 << 62, 4}} {
		b := slices.Concat(slowNumber(size[0]), slowNumber(size[1]))
		refuseReading(t, "a size", b)
		refuseReading(t, "a size", append(b, make([]byte, 400)...))
	}
}

// TestW1CellsBeyondTheEnds: whoever reads a matrix has still to ask mat's Check of it.
func TestW1CellsBeyondTheEnds(t *testing.T) {
	for _, x := range []int{api.Top + 1, -api.Top - 1, 1 << 40, 1<<62 - 1, -1 << 62} {
		a := message(1, 0, 1, 1, x).Body
		if got, _, err := ReadMatrix(append([]byte{1, 1}, slowCell(x)...)); !sameMatrix(got, a) || err != nil {
			t.Errorf("a cell of %d is read as %v, %v", x, got, err)
		}
	}
}

// TestRuleP2WhatStandsOpen: nothing is written into, and what is told is fresh.
func TestRuleP2WhatStandsOpen(t *testing.T) {
	for i, one := range right() {
		name := fmt.Sprint("message ", i)
		var m memory
		laid, b := layMessage(&m, one), lay(&m, matrixBytes(one), 1, 2, 3)
		var written [][]byte
		var cells [][]int
		for range 2 {
			back, _, err := ReadMatrix(b)
			if err != nil {
				t.Fatalf("%s: %v", name, err)
			}
			if x, _, err := ReadNumber(b); x != one.Body.Rows || err != nil {
				t.Errorf("%s: ReadNumber(%v) = %d, %v", name, b, x, err)
			}
			if got := Sums(b); !slices.Equal(got[:], slowSums(b)) {
				t.Errorf("%s: Sums(%v) = %v", name, b, got)
			}
			written = append(written, WriteMatrix(laid.Body), WriteNumber(one.Micro))
			cells = append(cells, back.Cells)
		}
		mustBeApart(t, name, written)
		mustBeApart(t, name, cells)
		m.stays(t, name)
	}
}
