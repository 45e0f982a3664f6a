package drill

import (
	"fmt"
	"math/rand"
	"slices"
	"testing"

	"galley/api"
	"galley/plain"
	"galley/train"
)

const top = api.Top

// of makes a matrix of what it is told, right or wrong.
func of(rows, cols int, cells ...int) api.Matrix {
	return api.Matrix{Rows: rows, Cols: cols, Cells: cells}
}

// full makes a matrix of which all cells are the same.
func full(rows, cols, x int) api.Matrix { return of(rows, cols, slices.Repeat([]int{x}, rows*cols)...) }

func linearOf(w, b api.Matrix) api.Layer { return api.Layer{Kind: api.Linear, W: w, B: b} }

func reluOf() api.Layer { return api.Layer{Kind: api.Relu} }

func scaleOf(x int) api.Layer { return api.Layer{Kind: api.Scale, W: of(1, 1, x)} }

func shiftOf(cells ...int) api.Layer {
	return api.Layer{Kind: api.Shift, B: of(1, len(cells), cells...)}
}

func batchOf(in, want api.Matrix) api.Batch { return api.Batch{In: in, Want: want} }

func fallsOf(tries ...int) []int { return tries }

// asked is what Run is handed.
type asked struct {
	s     train.State
	l     []api.Batch
	parts int
	r     api.Rates
	every int
	falls []int
}

// small has each Kind, five batches, and three falls that come; nothing is wrong
// with it. What it gives is its caller's to spoil.
func small() asked {
	a := asked{
		s: train.State{
			Net: []api.Layer{
				linearOf(of(2, 3, 256, 100, -50, 0, 300, 256), of(1, 3, 10, -10, 1)), reluOf(), scaleOf(200), shiftOf(-5, 5, 0),
			},
			Speed: []api.Grad{
				{W: of(2, 3, 10, 20, 30, -10, -20, -30), B: of(1, 3, 0, 1, -1)}, {}, {W: of(1, 1, -7)}, {B: of(1, 3, 100, 3, 0)},
			},
			Steps: 7,
		},
		parts: 2,
		r:     api.Rates{Learn: 64, Keep: 128},
		every: 2,
		falls: fallsOf(2, 5, 9),
	}
	for i := range 5 {
		a.l = append(a.l, batchOf(
			of(3, 2, 256+i, 512, -i, -256, 100, 40*i),
			of(3, 3, 256, i, 0, 0, 256, -90*i, 0, i, 256)))
	}
	return a
}

// line learns so many batches, no two of which are the same, by a Scale alone.
func line(count, every int, falls ...int) asked {
	a := asked{
		s:     train.Begin([]api.Layer{scaleOf(256)}),
		parts: 1,
		r:     api.Rates{Learn: 100, Keep: 90},
		every: every,
		falls: falls,
	}
	for i := range count {
		a.l = append(a.l, batchOf(of(1, 1, 256-9*i), of(1, 1, 512+77*i)))
	}
	return a
}

// answer is what Run told, as text: an empty list and none are the same.
func answer(s train.State, tries int, err error) string {
	return fmt.Sprintln(s.Net) + fmt.Sprintln(s.Speed) + fmt.Sprintln(s.Steps, tries, plain.Told(err))
}

func (a asked) run() string {
	return answer(Run(a.s, a.l, a.parts, a.r, a.every, a.falls))
}

// slowTries goes group by group: each begins behind the last fall that comes
// into it, and then has a try for each of its batches.
func slowTries(count, every int, falls []int) int {
	next := 1
	for from := 0; from < count; from += every {
		size := min(every, count-from)
		for _, try := range falls {
			if next <= try && try < next+size {
				next = try + 1
			}
		}
		next += size
	}
	return next - 1
}

// slowLosses lists what is learned and what is kept, and tells how many falls
// came, and how many batches were lost.
func slowLosses(count, every int, falls []int) (int, int) {
	var learned, kept []int
	came, lost := 0, 0
	for try := 1; len(learned) < count; try++ {
		if slices.Contains(falls, try) {
			came++
			lost += len(learned) - len(kept)
			learned = slices.Clone(kept)
			continue
		}
		learned = append(learned, try)
		if len(learned)%every == 0 {
			kept = slices.Clone(learned)
		}
	}
	return came, lost
}

// slowly is what is to be told where nothing is wrong.
func (a asked) slowly(t *testing.T) string {
	t.Helper()
	s, _, err := train.All(a.s, a.l, a.parts, a.r)
	if err != nil {
		t.Fatalf("train's All(%v): %v", a, err)
	}
	return answer(s, slowTries(len(a.l), a.every, a.falls), nil)
}

func (a asked) must(t *testing.T, name string) {
	t.Helper()
	if got, want := a.run(), a.slowly(t); got != want {
		t.Errorf("%s: Run(%v) =\n%s\nwant\n%s", name, a, got, want)
	}
}

// refuse holds that Run tells it, and nothing beside it.
func (a asked) refuse(t *testing.T, name string, told api.Errno) {
	t.Helper()
	s, tries, err := Run(a.s, a.l, a.parts, a.r, a.every, a.falls)
	if got := answer(s, tries, err); got != answer(train.State{}, 0, told) {
		t.Errorf("%s: Run(%v) =\n%s\nwant nothing and %v", name, a, got, told)
	}
}

// maker gives numbers of one sort.
type maker func() int

// makers are of many sorts: where sums never come to an end, where they do now
// and then, and where they do nearly always.
func makers(r *rand.Rand) []maker {
	upTo := func(bound int) maker { return func() int { return r.Intn(2*bound+1) - bound } }
	ends := []int{-top, top, 256, -256, 0, 1}
	return []maker{upTo(3), upTo(300), upTo(1 << 20), upTo(top), func() int { return ends[r.Intn(len(ends))] }}
}

func (m maker) matrix(rows, cols int) api.Matrix {
	a := full(rows, cols, 0)
	for i := range a.Cells {
		a.Cells[i] = m()
	}
	return a
}

// layer is of a Kind, for so many columns; it tells how many come of them.
func (m maker) layer(r *rand.Rand, kind, cols int) (api.Layer, int) {
	switch kind {
	case api.Linear:
		out := 1 + r.Intn(5)
		return linearOf(m.matrix(cols, out), m.matrix(1, out)), out
	case api.Scale:
		return scaleOf(m()), cols
	case api.Shift:
		return shiftOf(m.matrix(1, cols).Cells...), cols
	}
	return reluOf(), cols
}

// someFalls are so many that rise, with gaps up to a bound between them.
func someFalls(r *rand.Rand, count, gap int) []int {
	var l []int
	try := 0
	for range count {
		try += 1 + r.Intn(gap)
		l = append(l, try)
	}
	return l
}

// someAsked is right. The state's own numbers are of one sort, those of the
// batches of another; all Kinds come in turn, from any of them on.
func someAsked(r *rand.Rand, layers, count, every int) asked {
	own, rest := makers(r)[r.Intn(5)], makers(r)[r.Intn(5)]
	a := asked{
		s:     train.State{Steps: r.Intn(1000)},
		parts: 1 + r.Intn(3),
		r:     api.Rates{Learn: r.Intn(api.One + 1), Keep: r.Intn(api.One + 1)},
		every: every,
		falls: someFalls(r, r.Intn(maxFalls+1), 1+r.Intn(8)),
	}
	in, first := 1+r.Intn(5), r.Intn(4)
	out := in
	for i := range layers {
		var l api.Layer
		l, out = own.layer(r, 1+(first+i)%4, out)
		a.s.Net = append(a.s.Net, l)
		a.s.Speed = append(a.s.Speed, api.Grad{W: own.matrix(l.W.Rows, l.W.Cols), B: own.matrix(l.B.Rows, l.B.Cols)})
	}
	for range count {
		rows := a.parts + r.Intn(api.MaxSide-a.parts+1)
		a.l = append(a.l, batchOf(rest.matrix(rows, in), rest.matrix(rows, out)))
	}
	return a
}
