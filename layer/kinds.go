package layer

import (
	"galley/api"
	"galley/fix"
	"galley/mat"
)

// kind is what a layer does. The others are asked only of one that fits;
// forth and back only of an x, and a g, whose shapes go with it.
type kind interface {
	fits() bool
	takes(in int) bool
	gives(in int) int
	forth(x api.Matrix) (api.Matrix, error)
	back(x, g api.Matrix) (api.Matrix, api.Grad, error)
}

// named gives nil where there is no such Kind.
func named(l api.Layer) kind {
	switch l.Kind {
	case api.Linear:
		return linear{l.W, l.B}
	case api.Relu:
		return relu{keeper{l.W, l.B}}
	case api.Scale:
		return scale{keeper{l.W, l.B}}
	case api.Shift:
		return shift{keeper{l.W, l.B}}
	}
	return nil
}

func hasShape(a api.Matrix, rows, cols int) bool { return a.Rows == rows && a.Cols == cols }

// each asks for every cell anew, so that what comes out is always fresh memory.
func each(a api.Matrix, cell func(i, x int) int) api.Matrix {
	cells := make([]int, 0, len(a.Cells))
	for i, x := range a.Cells {
		cells = append(cells, cell(i, x))
	}
	return api.Matrix{Rows: a.Rows, Cols: a.Cols, Cells: cells}
}

func addToRows(a, row api.Matrix) api.Matrix {
	return each(a, func(i, x int) int { return fix.Add(x, row.Cells[i%row.Cols]) })
}

// linear has columns of its own, so it is the one kind that is no keeper.
type linear struct{ w, b api.Matrix }

// fits need not ask for MaxSide columns, as a matrix has never more; rows it may have more.
func (k linear) fits() bool {
	return k.w.Rows >= 1 && k.w.Rows <= api.MaxSide && k.w.Cols >= 1 && hasShape(k.b, 1, k.w.Cols)
}

func (k linear) takes(in int) bool { return in == k.w.Rows }

func (k linear) gives(in int) int { return k.w.Cols }

func (k linear) forth(x api.Matrix) (api.Matrix, error) {
	y, err := mat.Mul(x, k.w)
	if err != nil {
		return api.Matrix{}, err
	}
	return addToRows(y, k.b), nil
}

func (k linear) back(x, g api.Matrix) (api.Matrix, api.Grad, error) {
	toX, err := mulTurned(g, k.w)
	if err != nil {
		return api.Matrix{}, api.Grad{}, err
	}
	grad, err := linearGrad(x, g)
	if err != nil {
		return api.Matrix{}, api.Grad{}, err
	}
	return toX, grad, nil
}

func mulTurned(a, b api.Matrix) (api.Matrix, error) {
	turned, err := mat.Turn(b)
	if err != nil {
		return api.Matrix{}, err
	}
	return mat.Mul(a, turned)
}

// linearGrad leaves it to Turn to refuse an x of more rows than MaxSide, for
// that it cannot be turned is why Back refuses it.
func linearGrad(x, g api.Matrix) (api.Grad, error) {
	turned, err := mat.Turn(x)
	if err != nil {
		return api.Grad{}, err
	}
	w, err := mat.Mul(turned, g)
	if err != nil {
		return api.Grad{}, err
	}
	b, err := mat.Sums(g)
	if err != nil {
		return api.Grad{}, err
	}
	return api.Grad{W: w, B: b}, nil
}

// keeper is the part of all kinds of which as many columns come as there were.
type keeper struct{ w, b api.Matrix }

func (k keeper) takes(in int) bool { return true }

func (k keeper) gives(in int) int { return in }

type relu struct{ keeper }

func (k relu) fits() bool { return hasShape(k.w, 0, 0) && hasShape(k.b, 0, 0) }

func (k relu) forth(x api.Matrix) (api.Matrix, error) {
	return each(x, func(_, c int) int { return max(c, 0) }), nil
}

func (k relu) back(x, g api.Matrix) (api.Matrix, api.Grad, error) {
	toX := each(g, func(i, c int) int {
		if x.Cells[i] > 0 {
			return c
		}
		return 0
	})
	return toX, api.Grad{}, nil
}

type scale struct{ keeper }

func (k scale) fits() bool { return hasShape(k.w, 1, 1) && hasShape(k.b, 0, 0) }

func (k scale) forth(x api.Matrix) (api.Matrix, error) { return mat.Times(x, k.w.Cells[0]) }

func (k scale) back(x, g api.Matrix) (api.Matrix, api.Grad, error) {
	toX, err := mat.Times(g, k.w.Cells[0])
	if err != nil {
		return api.Matrix{}, api.Grad{}, err
	}
	sum := 0
	for i, c := range x.Cells {
		sum = fix.Add(sum, fix.Mul(c, g.Cells[i]))
	}
	return toX, api.Grad{W: api.Matrix{Rows: 1, Cols: 1, Cells: []int{sum}}}, nil
}

type shift struct{ keeper }

func (k shift) fits() bool {
	return hasShape(k.w, 0, 0) && k.b.Rows == 1 && k.b.Cols >= 1
}

func (k shift) takes(in int) bool { return in == k.b.Cols }

func (k shift) forth(x api.Matrix) (api.Matrix, error) { return addToRows(x, k.b), nil }

func (k shift) back(x, g api.Matrix) (api.Matrix, api.Grad, error) {
	sums, err := mat.Sums(g)
	if err != nil {
		return api.Matrix{}, api.Grad{}, err
	}
	// A copy, as what comes out may not share memory with g.
	toX := each(g, func(_, c int) int { return c })
	return toX, api.Grad{B: sums}, nil
}
