package team

import (
	"fmt"
	"math/rand"
	"slices"
	"strconv"
	"strings"
	"testing"

	"galley/api"
	"galley/plain"
	"galley/train"
)

const top = api.Top

// of makes a matrix of what it is told, right or wrong.
func of(rows, cols int, cells ...int) api.Matrix {
	return api.Matrix{Rows: rows, Cols: cols, Cells: cells}
}

// full makes a matrix of which all cells are the same.
func full(rows, cols, x int) api.Matrix { return of(rows, cols, slices.Repeat([]int{x}, rows*cols)...) }

func column(cells ...int) api.Matrix { return of(len(cells), 1, cells...) }

func linearOf(w, b api.Matrix) api.Layer { return api.Layer{Kind: api.Linear, W: w, B: b} }

func reluOf() api.Layer { return api.Layer{Kind: api.Relu} }

func scaleOf(x int) api.Layer { return api.Layer{Kind: api.Scale, W: of(1, 1, x)} }

func shiftOf(cells ...int) api.Layer {
	return api.Layer{Kind: api.Shift, B: of(1, len(cells), cells...)}
}

func batchOf(in, want api.Matrix) api.Batch { return api.Batch{In: in, Want: want} }

// maker gives numbers of one sort.
type maker func() int

// upTo has numbers up to a bound, below 0 and above.
func upTo(r *rand.Rand, bound int) maker { return func() int { return r.Intn(2*bound+1) - bound } }

// oneOf has some numbers alone.
func oneOf(r *rand.Rand, l ...int) maker { return func() int { return l[r.Intn(len(l))] } }

func (m maker) matrix(rows, cols int) api.Matrix {
	a := full(rows, cols, 0)
	for i := range a.Cells {
		a.Cells[i] = m()
	}
	return a
}

// net is told by words: R, C and S are Relu, Scale and Shift, L and a number is a
// Linear of which so many columns come. It tells how many columns come of all.
func (m maker) net(cols int, text string) ([]api.Layer, int) {
	var n []api.Layer
	for _, word := range strings.Fields(text) {
		switch word[0] {
		case 'R':
			n = append(n, reluOf())
		case 'C':
			n = append(n, scaleOf(m()))
		case 'S':
			n = append(n, shiftOf(m.matrix(1, cols).Cells...))
		case 'L':
			out, err := strconv.Atoi(word[1:])
			if err != nil {
				panic(err)
			}
			n = append(n, linearOf(m.matrix(cols, out), m.matrix(1, out)))
			cols = out
		}
	}
	return n, cols
}

func (m maker) state(n []api.Layer, steps int) train.State {
	s := train.State{Net: n, Steps: steps}
	for _, l := range n {
		s.Speed = append(s.Speed, api.Grad{W: m.matrix(l.W.Rows, l.W.Cols), B: m.matrix(l.B.Rows, l.B.Cols)})
	}
	return s
}

// someWords is a net of so many layers, in which all Kinds come in turn, from any of them on.
func someWords(r *rand.Rand, layers int) string {
	var words []string
	first := r.Intn(4)
	for i := range layers {
		words = append(words, []string{fmt.Sprint("L", 1+r.Intn(5)), "S", "R", "C"}[(first+i)%4])
	}
	return strings.Join(words, " ")
}

// asked is what One is handed.
type asked struct {
	s           train.State
	b           api.Batch
	crew, parts int
	r           api.Rates
}

// makers are of many sorts: where sums never come to an end, where they do now
// and then, and where they do nearly always.
func makers(r *rand.Rand) []maker {
	return []maker{upTo(r, 3), upTo(r, 300), upTo(r, 1<<20), upTo(r, top), oneOf(r, -top, top, 256, -256, 0, 1)}
}

// rowsFor is how many rows may be dealt to so many hands with so many parts each.
func rowsFor(r *rand.Rand, crew, parts int) int {
	most := min(api.MaxRows, api.MaxSide*crew*parts)
	return crew*parts + r.Intn(most-crew*parts+1)
}

// someAsked is right. The net's own numbers are of one sort, those of the batch of another.
func someAsked(r *rand.Rand, in int, words string, crew, parts int) asked {
	own, rest := makers(r)[r.Intn(5)], makers(r)[r.Intn(5)]
	n, out := own.net(in, words)
	rows := rowsFor(r, crew, parts)
	return asked{
		s:     own.state(n, r.Intn(1000)),
		b:     batchOf(rest.matrix(rows, in), rest.matrix(rows, out)),
		crew:  crew,
		parts: parts,
		r:     api.Rates{Learn: r.Intn(api.One + 1), Keep: r.Intn(api.One + 1)},
	}
}

// everyDeal goes through all hands and parts for which there are rows.
func everyDeal(yield func(crew, parts int) bool) {
	for crew := 1; crew <= api.MaxCrew; crew++ {
		for parts := 1; parts <= api.MaxMicros && crew*parts <= api.MaxRows; parts++ {
			if !yield(crew, parts) {
				return
			}
		}
	}
}

// small has each Kind, and nothing is wrong with it: two hands of three rows and
// of two, with two parts each. What it gives is its caller's to spoil.
func small() asked {
	return asked{
		s: train.State{
			Net: []api.Layer{
				linearOf(of(2, 3, 256, 100, -50, 0, 300, 256), of(1, 3, 10, -10, 1)), reluOf(), scaleOf(200), shiftOf(-5, 5, 0),
			},
			Speed: []api.Grad{
				{W: of(2, 3, 10, 20, 30, -10, -20, -30), B: of(1, 3, 0, 1, -1)}, {}, {W: of(1, 1, -7)}, {B: of(1, 3, 100, 3, 0)},
			},
			Steps: 7,
		},
		b: batchOf(
			of(5, 2, 256, 512, 0, -256, 100, 1, -300, 80, 77, 33),
			of(5, 3, 256, 0, 0, 0, 256, 0, 0, 0, 256, -100, -100, 100, 1, 2, 3)),
		crew:  2,
		parts: 2,
		r:     api.Rates{Learn: 64, Keep: 128},
	}
}

// answer is what One, or All, told, as text: an empty list and none are the same.
func answer(s train.State, off any, err error) string {
	return fmt.Sprintln(s.Net) + fmt.Sprintln(s.Speed) + fmt.Sprintln(s.Steps, off, plain.Told(err))
}

func (a asked) one() string {
	s, off, err := One(a.s, a.b, a.crew, a.parts, a.r)
	return answer(s, off, err)
}

func (a asked) all(l ...api.Batch) string {
	s, offs, err := All(a.s, l, a.crew, a.parts, a.r)
	return answer(s, offs, err)
}

// must holds One, and All of this batch twice, against what was said once more.
func (a asked) must(t *testing.T, name string) {
	t.Helper()
	if got, want := a.one(), a.oneSlowly(); got != want {
		t.Fatalf("%s: One(%v) =\n%s\nwant\n%s", name, a, got, want)
	}
	a.mustAll(t, name, a.b, a.b)
}

func (a asked) mustAll(t *testing.T, name string, l ...api.Batch) {
	t.Helper()
	if got, want := a.all(l...), a.allSlowly(l...); got != want {
		t.Fatalf("%s: All(%v, %v) =\n%s\nwant\n%s", name, a, l, got, want)
	}
}

// refuse holds that One tells it and nothing beside it, and so does All, where
// this is its first batch.
func (a asked) refuse(t *testing.T, name string, told api.Errno) {
	t.Helper()
	if got := a.one(); got != answer(train.State{}, 0, told) {
		t.Errorf("%s: One(%v) =\n%s\nwant nothing and %v", name, a, got, told)
	}
	a.refuseAll(t, name, told, a.b)
	a.refuseAll(t, name+", ahead of another", told, a.b, small().b)
	a.refuseAll(t, name+", ahead of a wrong one", told, a.b, batchOf(of(-1, 0), of(1, 1)), api.Batch{})
}

func (a asked) refuseAll(t *testing.T, name string, told api.Errno, l ...api.Batch) {
	t.Helper()
	if got := a.all(l...); got != answer(train.State{}, []int{}, told) {
		t.Errorf("%s: All(%v, %v) =\n%s\nwant nothing and %v", name, a, l, got, told)
	}
}
