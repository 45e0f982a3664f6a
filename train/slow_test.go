package train

import (
	"galley/api"
	"galley/batch"
	"galley/layer"
	"galley/mat"
	"galley/net"
	"galley/plain"
)

// What stands here says the chapter once more, where nothing is wrong: whole
// numbers, row by row, shifted down by the 8 bits of One, which rounds down.

func end(x int) int { return min(max(x, -top), top) }

func times(a, b int) int { return end(a * b >> 8) }

type table [][]int

func rowsOf(a api.Matrix, from, to int) table {
	var rows table
	for i := from; i < to; i++ {
		rows = append(rows, a.Cells[i*a.Cols:(i+1)*a.Cols])
	}
	return rows
}

// forthSlowly is what comes of one row.
func forthSlowly(l api.Layer, row []int) []int {
	if l.Kind == api.Linear {
		out := make([]int, l.W.Cols)
		for j := range out {
			for k, x := range row {
				out[j] = end(out[j] + times(x, l.W.Cells[k*l.W.Cols+j]))
			}
			out[j] = end(out[j] + l.B.Cells[j])
		}
		return out
	}
	out := make([]int, len(row))
	for j, x := range row {
		switch l.Kind {
		case api.Relu:
			out[j] = max(x, 0)
		case api.Scale:
			out[j] = times(x, l.W.Cells[0])
		case api.Shift:
			out[j] = end(x + l.B.Cells[j])
		}
	}
	return out
}

// backSlowly is what goes back to one row; what the layer is to be turned by is added to d.
func backSlowly(l api.Layer, row, g []int, d api.Grad) []int {
	to := make([]int, len(row))
	for j, c := range g {
		if l.Kind == api.Linear || l.Kind == api.Shift {
			d.B.Cells[j] = end(d.B.Cells[j] + c)
		}
	}
	for i, x := range row {
		switch l.Kind {
		case api.Linear:
			for j, c := range g {
				at := i*l.W.Cols + j
				to[i] = end(to[i] + times(c, l.W.Cells[at]))
				d.W.Cells[at] = end(d.W.Cells[at] + times(x, c))
			}
		case api.Relu:
			if x > 0 {
				to[i] = g[i]
			}
		case api.Scale:
			to[i] = times(g[i], l.W.Cells[0])
			d.W.Cells[0] = end(d.W.Cells[0] + times(x, g[i]))
		case api.Shift:
			to[i] = g[i]
		}
	}
	return to
}

func zeroGrads(n []api.Layer) []api.Grad {
	var grads []api.Grad
	for _, l := range n {
		grads = append(grads, api.Grad{W: full(l.W.Rows, l.W.Cols, 0), B: full(l.B.Rows, l.B.Cols, 0)})
	}
	return grads
}

// partSlowly is what one part is to turn, and how far off it is.
func partSlowly(n []api.Layer, in, want table) ([]api.Grad, int) {
	grads, squares := zeroGrads(n), 0
	for i, row := range in {
		saw := table{row}
		for _, l := range n {
			saw = append(saw, forthSlowly(l, saw[len(saw)-1]))
		}
		g := make([]int, len(want[i]))
		for j, x := range saw[len(n)] {
			g[j] = end(x - want[i][j])
			squares = end(squares + times(g[j], g[j]))
		}
		for k := len(n) - 1; k >= 0; k-- {
			g = backSlowly(n[k], saw[k], g, grads[k])
		}
	}
	return grads, times(squares, 128)
}

func addCells(sum, more api.Matrix) {
	for i, x := range more.Cells {
		sum.Cells[i] = end(sum.Cells[i] + x)
	}
}

func turnSlowly(w, v, by api.Matrix, r api.Rates) (api.Matrix, api.Matrix) {
	newW, newV := full(w.Rows, w.Cols, 0), full(w.Rows, w.Cols, 0)
	for i := range w.Cells {
		newV.Cells[i] = end(times(v.Cells[i], r.Keep) + by.Cells[i])
		newW.Cells[i] = end(w.Cells[i] - times(newV.Cells[i], r.Learn))
	}
	return newW, newV
}

func oneSlowly(a asked) (State, int) {
	sum, off, from := zeroGrads(a.s.Net), 0, 0
	for part := range a.parts {
		to := from + a.b.In.Rows/a.parts
		if part < a.b.In.Rows%a.parts {
			to++
		}
		by, far := partSlowly(a.s.Net, rowsOf(a.b.In, from, to), rowsOf(a.b.Want, from, to))
		for i := range sum {
			addCells(sum[i].W, by[i].W)
			addCells(sum[i].B, by[i].B)
		}
		off = end(off + far)
		from = to
	}
	next := State{Steps: a.s.Steps + 1}
	for i, l := range a.s.Net {
		turned, speed := api.Layer{Kind: l.Kind}, api.Grad{}
		turned.W, speed.W = turnSlowly(l.W, a.s.Speed[i].W, sum[i].W, a.r)
		turned.B, speed.B = turnSlowly(l.B, a.s.Speed[i].B, sum[i].B, a.r)
		next.Net, next.Speed = append(next.Net, turned), append(next.Speed, speed)
	}
	return next, off
}

func allSlowly(s State, l []api.Batch, parts int, r api.Rates) (State, []int) {
	var offs []int
	for _, b := range l {
		next, off := oneSlowly(asked{s, b, parts, r})
		s, offs = next, append(offs, off)
	}
	return s, offs
}

// And this is what is told where something is wrong, all of it in the
// chapter's order, of which the first holds.

type claim struct {
	holds bool
	told  api.Errno
}

func firstOf(claims ...claim) api.Errno {
	for _, c := range claims {
		if c.holds && c.told != api.OK {
			return c.told
		}
	}
	return api.OK
}

func says(err error) claim { return claim{true, plain.Told(err)} }

func unlike(a, b api.Matrix) bool { return a.Rows != b.Rows || a.Cols != b.Cols }

func toldOfState(s State) api.Errno {
	if told := firstOf(
		claim{len(s.Net) > 12, api.ErrFull},
		claim{len(s.Net) != len(s.Speed), api.ErrShape},
		claim{s.Steps < 0, api.ErrRange},
		claim{s.Steps > 1e9, api.ErrRange},
	); told != api.OK {
		return told
	}
	var claims []claim
	for i, l := range s.Net {
		v := s.Speed[i]
		claims = append(claims, says(layer.Check(l)), says(mat.Check(v.W)), says(mat.Check(v.B)),
			claim{unlike(v.W, l.W), api.ErrShape}, claim{unlike(v.B, l.B), api.ErrShape})
	}
	return firstOf(claims...)
}

func toldOfOne(a asked) api.Errno {
	rows := a.b.In.Rows
	_, sizes := batch.Sizes(rows, a.parts)
	cols, wide := net.Check(a.s.Net, a.b.In.Cols)
	// A part has more than 12 rows just if all parts of 12 are too few.
	return firstOf(
		claim{true, toldOfState(a.s)},
		says(batch.Check(a.b)),
		says(sizes),
		says(wide),
		claim{a.b.Want.Cols != cols, api.ErrShape},
		claim{rows > 12*a.parts, api.ErrRange},
		claim{a.r.Learn < 0 || a.r.Learn > 256, api.ErrRange},
		claim{a.r.Keep < 0 || a.r.Keep > 256, api.ErrRange})
}
