package train

import (
	"fmt"
	"math/rand"
	"slices"
	"testing"

	"galley/api"
)

func TestT2ByHand(t *testing.T) {
	one := line(scaleOf(256), column(256), column(512), 1, rates(128, 0))
	one.must(t, "a Scale", stateOf(netOf(scaleOf(384)), gradsOf(api.Grad{W: of(1, 1, -256)}), 1), 128, api.OK)

	two := line(linearOf(of(2, 1, 256, 512), of(1, 1, 0)), of(2, 2, 256, 0, 0, 256), column(0, 0), 2, rates(256, 0))
	two.must(t, "a Linear, two parts", stateOf(
		netOf(linearOf(of(2, 1, 0, 0), of(1, 1, -768))),
		gradsOf(api.Grad{W: of(2, 1, 256, 512), B: of(1, 1, 768)}), 1), 640, api.OK)

	two.s.Speed = gradsOf(api.Grad{W: of(2, 1, 100, -100), B: of(1, 1, 7)})
	two.s.Steps, two.r = 41, rates(128, 128)
	two.must(t, "with a speed", stateOf(
		netOf(linearOf(of(2, 1, 103, 281), of(1, 1, -385))),
		gradsOf(api.Grad{W: of(2, 1, 306, 462), B: of(1, 1, 771)}), 42), 640, api.OK)
	two.r = api.Rates{}
	two.must(t, "rates at 0", stateOf(
		two.s.Net, gradsOf(api.Grad{W: of(2, 1, 256, 512), B: of(1, 1, 768)}), 42), 640, api.OK)
	two.r = rates(256, 256)
	two.must(t, "rates at their greatest", stateOf(
		netOf(linearOf(of(2, 1, -100, 100), of(1, 1, -775))),
		gradsOf(api.Grad{W: of(2, 1, 356, 412), B: of(1, 1, 775)}), 42), 640, api.OK)

	chain := line(scaleOf(512), column(256), column(0), 1, rates(256, 0))
	chain.s = Begin(netOf(scaleOf(512), reluOf(), shiftOf(-256)))
	chain.must(t, "three layers", stateOf(
		netOf(scaleOf(256), reluOf(), shiftOf(-512)),
		gradsOf(api.Grad{W: of(1, 1, 256)}, api.Grad{}, api.Grad{B: of(1, 1, 256)}), 1), 128, api.OK)
}

// TestT2NoLayers: there is nothing to be turned, but how far off it is, and that a step was made.
func TestT2NoLayers(t *testing.T) {
	a := asked{State{Steps: 3}, batchOf(of(2, 2, 256, 0, 512, 5), of(2, 2, 0, 0, 0, 5)), 2, rates(256, 256)}
	a.must(t, "two parts", State{Steps: 4}, 640, api.OK)
	a.parts = 1
	a.must(t, "one part", State{Steps: 4}, 640, api.OK)
	a.s = stateOf([]api.Layer{}, []api.Grad{}, 0)
	a.must(t, "empty lists", State{Steps: 1}, 640, api.OK)
	a.b = batchOf(of(3, 0), of(3, 0))
	a.must(t, "no columns", State{Steps: 1}, 0, api.OK)
	a.b = batchOf(of(3, 1, 1, 2, 3), of(3, 2, 1, 2, 3, 4, 5, 6))
	a.refuse(t, "other columns", api.ErrShape)
	a.b = batchOf(full(24, 1, 0), full(24, 1, 0))
	a.refuse(t, "the greatest part", api.ErrRange)
	mustAll(t, "some batches", asked{s: State{Steps: 3}, parts: 1, r: rates(1, 1)},
		batches(batchOf(column(256), column(0)), batchOf(column(0), column(0)), batchOf(of(1, 2, 0, 256), of(1, 2, 256, 0))),
		State{Steps: 6}, []int{128, 0, 256}, api.OK)
}

// TestT2LossesEndInOrder: each part is halved and rounded of itself, and then added.
func TestT2LossesEndInOrder(t *testing.T) {
	for _, c := range []struct {
		name  string
		in    api.Matrix
		parts int
		off   int
	}{
		{"rounded whole", column(16, 16), 1, 1},
		{"rounded part by part", column(16, 16), 2, 0},
		{"the sum in one part ends", column(top, top, top), 1, 1073741823},
		{"two parts", column(top, top, top), 2, 2147483646},
		{"the sum of parts ends", column(top, top, top), 3, top},
		{"far beyond the end", full(12, 1, -top), 12, top},
	} {
		rows := c.in.Rows
		a := asked{State{}, batchOf(c.in, full(rows, 1, 0)), c.parts, api.Rates{}}
		a.must(t, c.name, State{Steps: 1}, c.off, api.OK)
	}
}

// TestT2GradsEndInOrder: where sums come to their end, it is to be seen which
// parts there are, and in which order they are gathered.
func TestT2GradsEndInOrder(t *testing.T) {
	for _, c := range []struct {
		name  string
		in    api.Matrix
		parts int
		sum   int
	}{
		{"up, up, down, in one part", column(top, top, -top), 1, 0},
		{"up, up, down, in two parts", column(top, top, -top), 2, 0},
		{"up, up, down, in three parts", column(top, top, -top), 3, 0},
		{"down, up, up, in three parts", column(-top, top, top), 3, top},
		{"down, up, up, in two parts", column(-top, top, top), 2, top},
		{"up, down, down, in three parts", column(top, -top, -top), 3, -top},
		{"up, up, down, down, in one part", column(top, top, -top, -top), 1, -top},
		{"up, up, down, down, in two parts", column(top, top, -top, -top), 2, 0},
		{"up, up, down, down, in three parts", column(top, top, -top, -top), 3, -top},
		{"up, up, down, down, in four parts", column(top, top, -top, -top), 4, -top},
		{"a little behind the end", column(top, 1, -1), 3, top - 1},
		{"a little ahead of the end", column(1, -1, top), 3, top},
	} {
		rows := c.in.Rows
		a := line(shiftOf(0), c.in, full(rows, 1, 0), c.parts, rates(256, 0))
		s, _, err := One(a.s, a.b, a.parts, a.r)
		want := stateOf(netOf(shiftOf(-c.sum)), gradsOf(api.Grad{B: of(1, 1, c.sum)}), 1)
		if !sameState(s, want) || err != nil {
			t.Errorf("%s: the state is %v, %v; want %v", c.name, s, err, want)
		}
		a.mustSlowly(t, c.name)
	}
}

// TestT2AllCellsAtTheEnds: nothing goes beyond the ends, and Check takes what comes out.
func TestT2AllCellsAtTheEnds(t *testing.T) {
	for _, x := range []int{-top, top} {
		for _, y := range []int{-top, top} {
			n := netOf(linearOf(full(12, 12, x), full(1, 12, y)), scaleOf(y), shiftOf(slices.Repeat([]int{x}, 12)...), reluOf())
			n = slices.Repeat(n, 3)
			speed := zeroGrads(n)
			for i := range speed {
				speed[i] = api.Grad{W: full(n[i].W.Rows, n[i].W.Cols, y), B: full(n[i].B.Rows, n[i].B.Cols, x)}
			}
			for _, parts := range []int{2, 5, 12} {
				a := asked{stateOf(n, speed, 0), batchOf(full(24, 12, x), full(24, 12, y)), parts, rates(256, 256)}
				a.mustSlowly(t, "the ends")
				s, _, _ := One(a.s, a.b, a.parts, a.r)
				mustCheck(t, "what comes out", s, api.OK)
			}
		}
	}
}

func TestT2HowManyLayers(t *testing.T) {
	for count := range api.MaxLayers + 3 {
		a := line(scaleOf(256), column(256, 0, 5), column(0, 0, 0), 2, rates(16, 200))
		a.s = Begin(slices.Repeat(netOf(scaleOf(256)), count))
		if count > api.MaxLayers {
			a.refuse(t, "more", api.ErrFull)
			continue
		}
		a.mustSlowly(t, fmt.Sprint(count, " layers"))
	}
}

func TestT2Steps(t *testing.T) {
	for _, steps := range []int{0, 1, 999999998, 999999999} {
		a := small()
		a.s.Steps = steps
		a.mustSlowly(t, fmt.Sprint(steps, " Steps"))
	}
	// The step that goes beyond is made, for the state it starts from is right; the next one is not.
	a := small()
	a.s.Steps = 1e9
	a.mustSlowly(t, "10^9 Steps")
	next, _, _ := One(a.s, a.b, a.parts, a.r)
	if next.Steps != 1000000001 {
		t.Errorf("%d Steps behind 10^9", next.Steps)
	}
	a.s = next
	a.refuse(t, "one more", api.ErrRange)
	refuseAll(t, "one more, no batches", a, nil, api.ErrRange)
}

// TestT2HowManyParts: from one to as many as rows, as many as may be.
func TestT2HowManyParts(t *testing.T) {
	r := rand.New(rand.NewSource(1))
	for rows := 1; rows <= api.MaxRows; rows++ {
		for parts := -1; parts <= api.MaxRows+1; parts++ {
			a := someAsked(r, 4, rows)
			a.parts = parts
			name := fmt.Sprint(rows, " rows, ", parts, " parts")
			if told := toldOfOne(a); told != api.OK {
				a.refuse(t, name, told)
				continue
			}
			a.mustSlowly(t, name)
		}
	}
}

func TestT2ToTheLastBit(t *testing.T) {
	r := rand.New(rand.NewSource(2))
	for range 1500 {
		someAsked(r, r.Intn(api.MaxLayers+1), 1+r.Intn(api.MaxRows)).mustSlowly(t, "some")
	}
}

// someBatches go with the net that a has.
func someBatches(r *rand.Rand, a asked, count int) []api.Batch {
	var l []api.Batch
	for range count {
		least, most := a.parts, min(api.MaxSide*a.parts, api.MaxRows)
		rows := least + r.Intn(most-least+1)
		l = append(l, batchOf(some(r, rows, a.b.In.Cols), some(r, rows, a.b.Want.Cols)))
	}
	return l
}

func TestT2AllToTheLastBit(t *testing.T) {
	r := rand.New(rand.NewSource(3))
	for count := range api.MaxEpochs + 1 {
		for range 10 {
			a := someAsked(r, r.Intn(6), 1+r.Intn(api.MaxRows))
			l := someBatches(r, a, count)
			s, offs := allSlowly(a.s, l, a.parts, a.r)
			mustAll(t, fmt.Sprint(count, " batches"), a, l, s, offs, api.OK)
		}
	}
}

func TestT2AllByHand(t *testing.T) {
	a := line(scaleOf(256), column(256), column(512), 1, rates(128, 0))
	at := func(x, v, steps int) State {
		return stateOf(netOf(scaleOf(x)), gradsOf(api.Grad{W: of(1, 1, v)}), steps)
	}
	mustAll(t, "one", a, batches(a.b), at(384, -256, 1), []int{128}, api.OK)
	mustAll(t, "twice", a, batches(a.b, a.b), at(448, -128, 2), []int{128, 32}, api.OK)
	a.r.Keep = 128
	mustAll(t, "the speed goes on", a, batches(a.b, a.b), at(512, -256, 2), []int{128, 32}, api.OK)
	other := batchOf(column(256, 0), column(0, 256))
	mustAll(t, "other rows", a, batches(a.b, other), at(256, 256, 2), []int{128, 416}, api.OK)
}

func TestT4SomeAndThenMore(t *testing.T) {
	r := rand.New(rand.NewSource(4))
	for range 40 {
		a := someAsked(r, r.Intn(6), 1+r.Intn(api.MaxRows))
		l := someBatches(r, a, r.Intn(api.MaxEpochs+1))
		want, offs, err := All(a.s, l, a.parts, a.r)
		if err != nil {
			t.Fatalf("All(%v, %v): %v", a, l, err)
		}
		for cut := range len(l) + 1 {
			between, first, err := All(a.s, l[:cut], a.parts, a.r)
			if err != nil {
				t.Fatalf("All of %d batches: %v", cut, err)
			}
			s, second, err := All(between, l[cut:], a.parts, a.r)
			if got := slices.Concat(first, second); !sameState(s, want) || !slices.Equal(got, offs) || err != nil {
				t.Errorf("All of %d, and then of %d =\n%v, %v, %v; want\n%v, %v", cut, len(l)-cut, s, got, err, want, offs)
			}
		}
	}
}

// TestT4AllIsOneAndOne: batch by batch by hand it is the same.
func TestT4AllIsOneAndOne(t *testing.T) {
	r := rand.New(rand.NewSource(5))
	for range 40 {
		a := someAsked(r, r.Intn(8), 1+r.Intn(api.MaxRows))
		l := someBatches(r, a, 1+r.Intn(api.MaxEpochs))
		s, offs := a.s, []int(nil)
		for _, b := range l {
			next, off, err := One(s, b, a.parts, a.r)
			if err != nil {
				t.Fatalf("One(%v, %v): %v", s, b, err)
			}
			s, offs = next, append(offs, off)
		}
		mustAll(t, "one by one", a, l, s, offs, api.OK)
	}
}

// comes is what a net makes of rows.
func comes(n []api.Layer, in api.Matrix, cols int) api.Matrix {
	out := of(in.Rows, cols)
	for _, row := range rowsOf(in, 0, in.Rows) {
		for _, l := range n {
			row = forthSlowly(l, row)
		}
		out.Cells = append(out.Cells, row...)
	}
	return out
}

func TestT4WhatComesIsWanted(t *testing.T) {
	r := rand.New(rand.NewSource(6))
	for range 300 {
		a := someAsked(r, r.Intn(api.MaxLayers+1), 1+r.Intn(api.MaxRows))
		a.s.Speed = zeroGrads(a.s.Net)
		a.b.Want = comes(a.s.Net, a.b.In, a.b.Want.Cols)
		a.must(t, "wanted", stateOf(a.s.Net, a.s.Speed, a.s.Steps+1), 0, api.OK)
		count := r.Intn(api.MaxEpochs) + 1
		mustAll(t, "wanted, many times", a, slices.Repeat(batches(a.b), count),
			stateOf(a.s.Net, a.s.Speed, a.s.Steps+count), make([]int, count), api.OK)
	}
	// With a speed it is turned all the same.
	a := line(scaleOf(256), column(77), column(77), 1, rates(256, 128))
	a.s.Speed = gradsOf(api.Grad{W: of(1, 1, 100)})
	a.must(t, "a speed", stateOf(netOf(scaleOf(206)), gradsOf(api.Grad{W: of(1, 1, 50)}), 1), 0, api.OK)
}
