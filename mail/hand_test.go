package mail

import (
	"errors"
	"fmt"
	"math/rand"
	"slices"
	"testing"

	"galley/api"
	"galley/batch"
	"galley/cut"
	"galley/fix"
	"galley/loss"
	"galley/net"
	"galley/plan"
	"galley/step"
	"galley/train"
	"galley/wire"
)

// galley has stages by hand: each has its layers and its acts, and two boxes,
// of what comes to it there and back.
type galley struct {
	parts  []api.Batch
	stages []*stage
	off    int
}

type stage struct {
	layers      []api.Layer
	acts        []api.Act
	there, back *Box
	saw         map[int][]api.Matrix
	sum         []api.Grad
}

func galleyOf(t *testing.T, n []api.Layer, parts []api.Batch, ends []int, acts [][]api.Act) *galley {
	t.Helper()
	g := &galley{parts: parts}
	from := 0
	for i, end := range ends {
		layers := n[from:end]
		g.stages = append(g.stages, &stage{layers, acts[i], box(t, len(parts)), box(t, len(parts)), map[int][]api.Matrix{}, net.Zero(layers)})
		from = end
	}
	return g
}

// must is for what can't be wrong here.
func must[T any](x T, err error) func(t *testing.T) T {
	return func(t *testing.T) T {
		t.Helper()
		if err != nil {
			t.Fatal(err)
		}
		return x
	}
}

// post puts into a box what is read of a message's bytes.
func post(t *testing.T, b *Box, act api.Act, body api.Matrix) {
	t.Helper()
	bytes := must(wire.Encode(api.Message{Kind: act.Kind, Micro: act.Micro, Body: body}))(t)
	m, _, err := wire.Decode(bytes)
	if err != nil {
		t.Fatal(err)
	}
	mustPut(t, b, m)
}

// fetch is false where what an act needs has not come yet.
func fetch(t *testing.T, b *Box, act api.Act) (api.Matrix, bool) {
	t.Helper()
	m, err := b.Take()
	if errors.Is(err, api.ErrNone) {
		return api.Matrix{}, false
	}
	if err != nil || m.Kind != act.Kind || m.Micro != act.Micro {
		t.Fatalf("for %v there came %v, %v", act, m, err)
	}
	return m.Body, true
}

// row does all acts of all stages, each stage as far as it can go.
func (g *galley) row(t *testing.T) {
	t.Helper()
	for moved := true; moved; {
		moved = false
		for i, s := range g.stages {
			for len(s.acts) > 0 && g.does(t, i, s.acts[0]) {
				s.acts = s.acts[1:]
				moved = true
			}
		}
	}
	for i, s := range g.stages {
		if len(s.acts) > 0 {
			t.Fatalf("stage %d still has to do %v", i, s.acts)
		}
		for _, b := range []*Box{s.there, s.back} {
			b.Close()
			refuseTake(t, b, api.ErrOrder)
		}
	}
}

func (g *galley) does(t *testing.T, i int, act api.Act) bool {
	t.Helper()
	if act.Kind == api.Forward {
		return g.goes(t, i, act)
	}
	return g.returns(t, i, act)
}

func (g *galley) goes(t *testing.T, i int, act api.Act) bool {
	t.Helper()
	s, part := g.stages[i], g.parts[act.Micro]
	x := part.In
	if i > 0 {
		came, ok := fetch(t, s.there, act)
		if !ok {
			return false
		}
		x = came
	}
	saw := must(net.Go(s.layers, x))(t)
	s.saw[act.Micro] = saw
	got := saw[len(s.layers)]
	if i+1 < len(g.stages) {
		post(t, g.stages[i+1].there, act, got)
		return true
	}
	g.off = fix.Add(g.off, must(loss.Of(got, part.Want))(t))
	post(t, s.back, api.Act{Kind: api.Backward, Micro: act.Micro}, must(loss.Back(got, part.Want))(t))
	return true
}

func (g *galley) returns(t *testing.T, i int, act api.Act) bool {
	t.Helper()
	s := g.stages[i]
	came, ok := fetch(t, s.back, act)
	if !ok {
		return false
	}
	to, by, err := net.Back(s.layers, s.saw[act.Micro], came)
	if err != nil {
		t.Fatal(err)
	}
	s.sum = must(net.Gather(s.sum, by))(t)
	if i > 0 {
		post(t, g.stages[i-1].back, act, to)
	}
	return true
}

func some(r *rand.Rand, rows, cols int) api.Matrix {
	bound := []int{300, 1000, 1 << 20, api.Top}[r.Intn(4)]
	a := api.Matrix{Rows: rows, Cols: cols}
	for range rows * cols {
		a.Cells = append(a.Cells, r.Intn(2*bound+1)-bound)
	}
	return a
}

// someNet takes three columns, and tells how many come of them.
func someNet(r *rand.Rand, layers int) ([]api.Layer, int) {
	var n []api.Layer
	cols := 3
	for i := range layers {
		switch i % 4 {
		case 0:
			out := 1 + r.Intn(5)
			n = append(n, api.Layer{Kind: api.Linear, W: some(r, cols, out), B: some(r, 1, out)})
			cols = out
		case 1:
			n = append(n, api.Layer{Kind: api.Shift, B: some(r, 1, cols)})
		case 2:
			n = append(n, api.Layer{Kind: api.Relu})
		case 3:
			n = append(n, api.Layer{Kind: api.Scale, W: some(r, 1, 1)})
		}
	}
	return n, cols
}

// TestWholeByHand: stages by hand, with messages as bytes in boxes, learn what
// one part behind the other learns, to the last bit.
func TestWholeByHand(t *testing.T) {
	r := rand.New(rand.NewSource(2))
	for round := range 200 {
		stages, parts := 1+r.Intn(api.MaxStages), 1+r.Intn(api.MaxMicros)
		n, cols := someNet(r, stages+r.Intn(api.MaxLayers-stages+1))
		rows := parts + r.Intn(api.MaxMicros)
		b := api.Batch{In: some(r, rows, 3), Want: some(r, rows, cols)}
		rates := api.Rates{Learn: r.Intn(api.One + 1), Keep: r.Intn(api.One + 1)}
		if rows > api.MaxSide*parts {
			continue // a part would have more rows than may be
		}
		s := train.Begin(n)
		want, off, err := train.One(s, b, parts, rates)
		if err != nil {
			t.Fatal(err)
		}
		ends, _, err := cut.Best(slices.Repeat([]int{1}, len(n)), stages)
		if err != nil {
			t.Fatal(err)
		}
		acts := must(plan.Wave(stages, parts))(t)
		if round%2 == 1 {
			acts = must(plan.Turns(stages, parts))(t)
		}
		g := galleyOf(t, n, must(batch.Split(b, parts))(t), ends, acts)
		g.row(t)
		var by []api.Grad
		for _, one := range g.stages {
			by = append(by, one.sum...)
		}
		turned, speed, err := step.Do(s.Net, s.Speed, by, rates)
		got := train.State{Net: turned, Speed: speed, Steps: 1}
		if err != nil || g.off != off || fmt.Sprint(got) != fmt.Sprint(want) {
			t.Fatalf("%d stages, %d parts: %v, %d, %v, want %v, %d", stages, parts, got, g.off, err, want, off)
		}
	}
}
