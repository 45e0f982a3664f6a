package crew

import (
	"fmt"
	"math/rand"
	"slices"
	"strconv"
	"strings"
	"testing"
	"time"

	"galley/api"
	"galley/plain"
	"galley/plan"
	"galley/train"
)

const top = api.Top

// of makes a matrix of what it is told, right or wrong.
func of(rows, cols int, cells ...int) api.Matrix {
	return api.Matrix{Rows: rows, Cols: cols, Cells: cells}
}

// full makes a matrix of which all cells are the same.
func full(rows, cols, x int) api.Matrix { return of(rows, cols, slices.Repeat([]int{x}, rows*cols)...) }

// some makes a matrix of small numbers, or of such that sums come to an end.
func some(r *rand.Rand, rows, cols int) api.Matrix {
	bound := []int{3, 300, 300, 1000, 1 << 20, top}[r.Intn(6)]
	a := full(rows, cols, 0)
	for i := range a.Cells {
		a.Cells[i] = r.Intn(2*bound+1) - bound
	}
	return a
}

func linearOf(w, b api.Matrix) api.Layer { return api.Layer{Kind: api.Linear, W: w, B: b} }

func reluOf() api.Layer { return api.Layer{Kind: api.Relu} }

func scaleOf(x int) api.Layer { return api.Layer{Kind: api.Scale, W: of(1, 1, x)} }

func shiftOf(cells ...int) api.Layer {
	return api.Layer{Kind: api.Shift, B: of(1, len(cells), cells...)}
}

func column(cells ...int) api.Matrix { return of(len(cells), 1, cells...) }

func batchOf(in, want api.Matrix) api.Batch { return api.Batch{In: in, Want: want} }

// read makes a plan of texts, one for each stage: F and B are Forward and
// Backward, Z and X the Kinds that are none, below and above.
func read(stages ...string) [][]api.Act {
	var acts [][]api.Act
	for _, text := range stages {
		var own []api.Act
		for _, word := range strings.Fields(text) {
			part, err := strconv.Atoi(word[1:])
			if err != nil {
				panic(err)
			}
			own = append(own, api.Act{Kind: strings.Index("ZFBX", word[:1]), Micro: part})
		}
		acts = append(acts, own)
	}
	return acts
}

func wave(stages, parts int) [][]api.Act { return made(plan.Wave(stages, parts)) }

func turns(stages, parts int) [][]api.Act { return made(plan.Turns(stages, parts)) }

func made(acts [][]api.Act, err error) [][]api.Act {
	if err != nil {
		panic(err)
	}
	return acts
}

// canBeNext tells whether a stage may do an act behind what all stages did, so
// that all go back part by part.
func canBeNext(did [][]api.Act, stage int, act api.Act) bool {
	has := func(stage, kind, part int) bool {
		return slices.Contains(did[stage], api.Act{Kind: kind, Micro: part})
	}
	part := act.Micro
	if has(stage, act.Kind, part) {
		return false
	}
	if act.Kind == api.Forward {
		return stage == 0 || has(stage-1, api.Forward, part)
	}
	return has(stage, api.Forward, part) && (part == 0 || has(stage, api.Backward, part-1)) &&
		(stage == len(did)-1 || has(stage+1, api.Backward, part))
}

// somePlan is even and can be done, as each stage does by and by what can be
// done; each takes the parts in an order of its own.
func somePlan(r *rand.Rand, stages, parts int) [][]api.Act {
	did := make([][]api.Act, stages)
	for range 2 * stages * parts {
		for {
			stage, act := r.Intn(stages), api.Act{Kind: 1 + r.Intn(2), Micro: r.Intn(parts)}
			if canBeNext(did, stage, act) {
				did[stage] = append(did[stage], act)
				break
			}
		}
	}
	return did
}

// someEnds cuts so many layers anywhere.
func someEnds(r *rand.Rand, layers, stages int) []int {
	ends := r.Perm(layers - 1)[:stages-1]
	for i := range ends {
		ends[i]++
	}
	slices.Sort(ends)
	return append(ends, layers)
}

// everyEnds has all cuts of so many layers.
func everyEnds(layers int) [][]int {
	var all [][]int
	for chosen := range 1 << (layers - 1) {
		var ends []int
		for end := 1; end < layers; end++ {
			if chosen>>(end-1)&1 == 1 {
				ends = append(ends, end)
			}
		}
		if len(ends) < api.MaxStages {
			all = append(all, append(ends, layers))
		}
	}
	return all
}

// someNet takes so many columns, and tells how many come of them. All Kinds
// come in turn, from any of them on.
func someNet(r *rand.Rand, layers, cols int) ([]api.Layer, int) {
	var n []api.Layer
	first := r.Intn(4)
	for i := range layers {
		switch (first + i) % 4 {
		case 0:
			out := 1 + r.Intn(5)
			n = append(n, linearOf(some(r, cols, out), some(r, 1, out)))
			cols = out
		case 1:
			n = append(n, shiftOf(some(r, 1, cols).Cells...))
		case 2:
			n = append(n, reluOf())
		case 3:
			n = append(n, scaleOf(some(r, 1, 1).Cells[0]))
		}
	}
	return n, cols
}

// asked is what One is handed.
type asked struct {
	s     train.State
	b     api.Batch
	ends  []int
	plan  [][]api.Act
	parts int
	r     api.Rates
}

// someAsked is right; by makes its plan.
func someAsked(r *rand.Rand, layers, stages, parts int, by func(stages, parts int) [][]api.Act) asked {
	in := 1 + r.Intn(api.MaxSide)
	n, out := someNet(r, layers, in)
	s := train.State{Net: n, Steps: r.Intn(1000)}
	for _, l := range n {
		s.Speed = append(s.Speed, api.Grad{W: some(r, l.W.Rows, l.W.Cols), B: some(r, l.B.Rows, l.B.Cols)})
	}
	rows := parts + r.Intn(min(api.MaxRows, api.MaxSide*parts)-parts+1)
	return asked{
		s:     s,
		b:     batchOf(some(r, rows, in), some(r, rows, out)),
		ends:  someEnds(r, layers, stages),
		plan:  by(stages, parts),
		parts: parts,
		r:     api.Rates{Learn: r.Intn(api.One + 1), Keep: r.Intn(api.One + 1)},
	}
}

// planner makes plans that are right.
type planner struct {
	name string
	plan func(stages, parts int) [][]api.Act
}

func planners(r *rand.Rand) []planner {
	return []planner{
		{"by waves", wave},
		{"by turns", turns},
		{"anyhow", func(stages, parts int) [][]api.Act { return somePlan(r, stages, parts) }},
	}
}

// small has each Kind, and nothing is wrong with it; what it gives is its caller's to spoil.
func small() asked {
	return asked{
		s: train.State{
			Net: []api.Layer{
				linearOf(of(2, 3, 256, 100, -50, 0, 300, 256), of(1, 3, 10, -10, 1)), reluOf(), scaleOf(200), shiftOf(-5, 5, 0),
			},
			Speed: []api.Grad{
				{W: of(2, 3, 10, 20, 30, -10, -20, -30), B: of(1, 3, 0, 1, -1)}, {}, {W: of(1, 1, -7)}, {B: of(1, 3, 100, 3, 0)},
			},
			Steps: 7,
		},
		b: batchOf(
			of(5, 2, 256, 512, 0, -256, 100, 1, -300, 80, 77, 33),
			of(5, 3, 256, 0, 0, 0, 256, 0, 0, 0, 256, -100, -100, 100, 1, 2, 3)),
		ends:  []int{1, 4},
		plan:  turns(2, 2),
		parts: 2,
		r:     api.Rates{Learn: 64, Keep: 128},
	}
}

// answer is what One, or All, told, as text: an empty list and none are the same.
func answer(s train.State, off any, err error) string {
	return fmt.Sprintln(s.Net) + fmt.Sprintln(s.Speed) + fmt.Sprintln(s.Steps, off, plain.Told(err))
}

func (a asked) one() string { return answer(One(a.s, a.b, a.ends, a.plan, a.parts, a.r)) }

func (a asked) all(l ...api.Batch) string { return answer(toldAll(a, l)) }

func toldAll(a asked, l []api.Batch) (train.State, any, error) {
	return All(a.s, l, a.ends, a.plan, a.parts, a.r)
}

// oneByOne is what train tells, one part behind the other.
func (a asked) oneByOne() string { return answer(train.One(a.s, a.b, a.parts, a.r)) }

func (a asked) allByOne(l ...api.Batch) string {
	s, offs, err := train.All(a.s, l, a.parts, a.r)
	return answer(s, offs, err)
}

func (a asked) check() api.Errno { return plain.Told(Check(a.s, a.b, a.ends, a.plan, a.parts, a.r)) }

// must holds that One tells what train's One tells, and All what train's All
// tells, to the last bit.
func (a asked) must(t *testing.T, name string) {
	t.Helper()
	if told := a.check(); told != api.OK {
		t.Fatalf("%s: Check(%v) = %v", name, a, told)
	}
	if got, want := a.one(), a.oneByOne(); got != want {
		t.Fatalf("%s: One(%v) =\n%s\nwant\n%s", name, a, got, want)
	}
	if got, want := a.all(a.b, a.b), a.allByOne(a.b, a.b); got != want {
		t.Fatalf("%s: All(%v), twice =\n%s\nwant\n%s", name, a, got, want)
	}
}

// nothing is what stands beside an error.
func nothing(told api.Errno) string { return answer(train.State{}, 0, told) }

// nothingOfAll is likewise what All tells.
func nothingOfAll(told api.Errno) string { return answer(train.State{}, []int{}, told) }

// refuse holds that Check tells it, that One tells the same and nothing beside
// it, and so does All, where this is its first batch.
func (a asked) refuse(t *testing.T, name string, told api.Errno) {
	t.Helper()
	if got := a.check(); got != told {
		t.Errorf("%s: Check(%v) = %v, want %v", name, a, got, told)
	}
	if got := a.one(); got != nothing(told) {
		t.Errorf("%s: One(%v) =\n%s\nwant nothing and %v", name, a, got, told)
	}
	a.refuseAll(t, name, told, a.b)
	a.refuseAll(t, name+", ahead of another", told, a.b, small().b)
	a.refuseAll(t, name+", ahead of a wrong one", told, a.b, batchOf(of(-1, 0), of(1, 1)))
}

func (a asked) refuseAll(t *testing.T, name string, told api.Errno, l ...api.Batch) {
	t.Helper()
	if got := a.all(l...); got != nothingOfAll(told) {
		t.Errorf("%s: All(%v, %v) =\n%s\nwant nothing and %v", name, a, l, got, told)
	}
}

// inTime stops the test where stages wait for ever.
func inTime(t *testing.T, name string, do func()) {
	t.Helper()
	done := make(chan struct{})
	go func() {
		defer close(done)
		do()
	}()
	select {
	case <-done:
	case <-time.After(time.Minute):
		t.Fatalf("%s waits", name)
	}
}
