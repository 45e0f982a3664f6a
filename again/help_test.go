package again

import (
	"fmt"
	"math/rand"
	"slices"
	"strconv"
	"strings"
	"testing"

	"galley/api"
	"galley/plain"
)

const top = api.Top

// of makes a matrix of what it is told, right or wrong.
func of(rows, cols int, cells ...int) api.Matrix {
	return api.Matrix{Rows: rows, Cols: cols, Cells: cells}
}

// full makes a matrix of which all cells are the same.
func full(rows, cols, x int) api.Matrix { return of(rows, cols, slices.Repeat([]int{x}, rows*cols)...) }

func linearOf(w, b api.Matrix) api.Layer { return api.Layer{Kind: api.Linear, W: w, B: b} }

func reluOf() api.Layer { return api.Layer{Kind: api.Relu} }

func scaleOf(x int) api.Layer { return api.Layer{Kind: api.Scale, W: of(1, 1, x)} }

func shiftOf(cells ...int) api.Layer {
	return api.Layer{Kind: api.Shift, B: of(1, len(cells), cells...)}
}

func netOf(l ...api.Layer) []api.Layer { return l }

// relus is a net of so many layers with which nothing is wrong.
func relus(count int) []api.Layer { return slices.Repeat(netOf(reluOf()), count) }

// maker gives numbers of one sort.
type maker func() int

// upTo has numbers up to a bound, below 0 and above.
func upTo(r *rand.Rand, bound int) maker { return func() int { return r.Intn(2*bound+1) - bound } }

// oneOf has some numbers alone.
func oneOf(r *rand.Rand, l ...int) maker { return func() int { return l[r.Intn(len(l))] } }

// makers are of many sorts: where numbers never come to their ends, where they
// do now and then, and where they do nearly always.
func makers(r *rand.Rand) []maker {
	return []maker{upTo(r, 3), upTo(r, 300), upTo(r, 1<<20), upTo(r, top), oneOf(r, -top, top, 256, -256, 0, 1)}
}

func (m maker) matrix(rows, cols int) api.Matrix {
	a := full(rows, cols, 0)
	for i := range a.Cells {
		a.Cells[i] = m()
	}
	return a
}

// net is told by words: R, C and S are Relu, Scale and Shift, L and a number is a
// Linear of which so many columns come. It tells how many columns come of all.
func (m maker) net(cols int, text string) ([]api.Layer, int) {
	var n []api.Layer
	for _, word := range strings.Fields(text) {
		switch word[0] {
		case 'R':
			n = append(n, reluOf())
		case 'C':
			n = append(n, scaleOf(m()))
		case 'S':
			n = append(n, shiftOf(m.matrix(1, cols).Cells...))
		case 'L':
			out, err := strconv.Atoi(word[1:])
			if err != nil {
				panic(err)
			}
			n = append(n, linearOf(m.matrix(cols, out), m.matrix(1, out)))
			cols = out
		}
	}
	return n, cols
}

// someWords is a net of so many layers, in which all Kinds come in turn, from the first one on.
func someWords(r *rand.Rand, first, layers int) string {
	var words []string
	for i := range layers {
		words = append(words, []string{fmt.Sprint("L", 1+r.Intn(api.MaxSide)), "S", "R", "C"}[(first+i)%4])
	}
	return strings.Join(words, " ")
}

// asked is what Back is handed.
type asked struct {
	n       []api.Layer
	x, want api.Matrix
	every   int
}

// someAsked is right. The net's own numbers are of one sort, those of x and want of another.
func someAsked(r *rand.Rand, rows, in int, words string, every int) asked {
	own, rest := makers(r)[r.Intn(5)], makers(r)[r.Intn(5)]
	n, out := own.net(in, words)
	return asked{n, rest.matrix(rows, in), rest.matrix(rows, out), every}
}

// everySize goes through all nets, by how many layers they have, and all every.
func everySize(yield func(layers, every int) bool) {
	for layers := range api.MaxLayers + 1 {
		for every := 1; every <= api.MaxLayers; every++ {
			if !yield(layers, every) {
				return
			}
		}
	}
}

// beyond has numbers that every may not be.
func beyond() []int {
	return []int{0, -1, -2, -12, 13, 14, 24, 256, 1 << 32, 1<<32 + 1, 1<<32 + 12, -1<<32 + 1, -1 << 63, 1<<63 - 1}
}

// small has each Kind, and nothing is wrong with it: what it does was reckoned
// by hand. What it gives is its caller's to spoil.
func small() asked {
	return asked{
		n: netOf(
			linearOf(of(2, 3, 256, 0, -256, 0, 512, 128), of(1, 3, 1, 2, 3)), reluOf(), scaleOf(128), shiftOf(1, -2, 3),
		),
		x:     of(2, 2, 10, 20, 30, 40),
		want:  of(2, 3, -250, 275, -508, 14, 35, -3),
		every: 2,
	}
}

// answer is what Back told, as text: an empty list and none are the same.
func answer(grads []api.Grad, off, kept int, err error) string {
	return fmt.Sprintln(grads) + fmt.Sprintln(off, kept, plain.Told(err))
}

func (a asked) back() string { return answer(Back(a.n, a.x, a.want, a.every)) }

// must holds Back against what was said once more.
func (a asked) must(t *testing.T, name string) {
	t.Helper()
	if got, want := a.back(), a.slowly(); got != want {
		t.Fatalf("%s: Back(%v) =\n%s\nwant\n%s", name, a, got, want)
	}
}

func (a asked) tells(t *testing.T, name string, grads []api.Grad, off, kept int) {
	t.Helper()
	if got, want := a.back(), answer(grads, off, kept, nil); got != want {
		t.Errorf("%s: Back(%v) =\n%s\nwant\n%s", name, a, got, want)
	}
}

// refuse holds that Back tells it, and nothing beside it.
func (a asked) refuse(t *testing.T, name string, told api.Errno) {
	t.Helper()
	grads, off, kept, err := Back(a.n, a.x, a.want, a.every)
	if grads != nil || off != 0 || kept != 0 || plain.Told(err) != told {
		t.Errorf("%s: Back(%v) = %v, %d, %d, %v; want nothing and %v", name, a, grads, off, kept, err, told)
	}
}

func mustMost(t *testing.T, layers, every, want int, told api.Errno) {
	t.Helper()
	if got, err := Most(layers, every); got != want || plain.Told(err) != told {
		t.Errorf("Most(%d, %d) = %d, %v; want %d, %v", layers, every, got, err, want, told)
	}
}
