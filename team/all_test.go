package team

import (
	"fmt"
	"math"
	"math/rand"
	"slices"
	"testing"

	"galley/api"
	"galley/plain"
	"galley/train"
)

// TestT2AllOfNoBatches: the state is told as it is; neither the crew nor
// anything else is asked.
func TestT2AllOfNoBatches(t *testing.T) {
	for _, l := range [][]api.Batch{nil, {}, {small().b}} {
		l = l[:0]
		for _, crew := range []int{math.MinInt, -1, 0, 1, 2, 6, 7, math.MaxInt} {
			for _, parts := range []int{math.MinInt, 0, 1, 12, 13, math.MaxInt} {
				for _, r := range []api.Rates{{}, {Learn: 256, Keep: 256}, {Learn: -1}, {Keep: 257}} {
					a := small()
					a.crew, a.parts, a.r = crew, parts, r
					name := fmt.Sprint("no batches, ", crew, " hands, ", parts, " parts, ", r)
					if got, want := a.all(l...), answer(small().s, []int{}, nil); got != want {
						t.Errorf("%s: All =\n%s\nwant\n%s", name, got, want)
					}
					for _, f := range stateFaults() {
						w := small()
						f.spoil(&w)
						w.crew, w.parts, w.r = crew, parts, r
						w.refuseAll(t, name+", "+f.name, f.told, l...)
					}
				}
			}
		}
	}
	a := asked{s: train.State{Steps: 1e9}, crew: -1}
	if got, want := a.all(), answer(a.s, []int{}, nil); got != want {
		t.Errorf("no batches, no layers: All =\n%s\nwant\n%s", got, want)
	}
}

func TestT2AllHowManyBatches(t *testing.T) {
	for count := range api.MaxEpochs + 3 {
		a := small()
		l := slices.Repeat([]api.Batch{a.b}, count)
		if count > api.MaxEpochs {
			a.refuseAll(t, fmt.Sprint(count, " batches"), api.ErrFull, l...)
			continue
		}
		a.mustAll(t, fmt.Sprint(count, " batches"), l...)
	}
}

// TestT2AllIsFullFirst: ahead of all that is wrong with anything else.
func TestT2AllIsFullFirst(t *testing.T) {
	for _, f := range everyFault() {
		a := small()
		f.spoil(&a)
		a.refuseAll(t, "21, and "+f.name, api.ErrFull, slices.Repeat([]api.Batch{a.b}, 21)...)
		a.refuseAll(t, "20, and "+f.name, f.told, slices.Repeat([]api.Batch{a.b}, 20)...)
	}
	asked{crew: math.MinInt, parts: math.MinInt}.refuseAll(t, "many", api.ErrFull, make([]api.Batch, 10000)...)
}

// TestT2AllBatchByBatch: what is wrong with one is told ahead of what is wrong
// with the next, and nothing that was learned stands beside it.
func TestT2AllBatchByBatch(t *testing.T) {
	a := small()
	shape, far := batchOf(full(5, 3, 0), full(5, 3, 0)), batchOf(of(1, 1, top+1), of(1, 1, 0))
	few, last := batchOf(full(1, 2, 0), full(1, 3, 0)), batchOf(full(3, 2, 0), full(3, 3, 0))
	for ahead := range api.MaxEpochs - 1 {
		l := slices.Repeat([]api.Batch{a.b}, ahead)
		name := fmt.Sprint("behind ", ahead)
		a.refuseAll(t, name, api.ErrShape, append(slices.Clone(l), shape)...)
		a.refuseAll(t, name, api.ErrShape, append(slices.Clone(l), shape, far)...)
		a.refuseAll(t, name, api.ErrRange, append(slices.Clone(l), far, shape)...)
		a.refuseAll(t, name, api.ErrRange, append(slices.Clone(l), far, a.b)...)
		a.refuseAll(t, name+", fewer rows than hands", api.ErrShape, append(slices.Clone(l), few, far)...)
		a.refuseAll(t, name+", more parts than rows of the last hand", api.ErrShape, append(slices.Clone(l), last, far)...)
	}
	// The crew is asked with the first batch, ahead of what is wrong with it.
	a.crew = 7
	a.refuseAll(t, "the crew, and a shape", api.ErrRange, shape, a.b)
	a.crew, a.r.Learn = 2, 257
	a.refuseAll(t, "a shape, and rates", api.ErrShape, shape, a.b)
	a.refuseAll(t, "rates, and a shape", api.ErrRange, a.b, shape)
}

// TestT2AllSteps: the last step may go one beyond 10^9, the next one may not be made.
func TestT2AllSteps(t *testing.T) {
	for left := range 4 {
		a := small()
		a.s.Steps = 1e9 - left
		l := slices.Repeat([]api.Batch{a.b}, left+1)
		a.mustAll(t, fmt.Sprint(a.s.Steps, " Steps"), l...)
		a.refuseAll(t, "one more", api.ErrRange, append(l, a.b)...)
		a.refuseAll(t, "a wrong one more", api.ErrRange, append(l, api.Batch{})...)
	}
}

// TestT1AllOneByOne: batches of many rows, one behind the other, are learned as
// One learns them one by one, each of what the one ahead told.
func TestT1AllOneByOne(t *testing.T) {
	r := rand.New(rand.NewSource(6))
	for count := 1; count <= api.MaxEpochs; count++ {
		for crew := 1; crew <= api.MaxCrew; crew++ {
			parts := 1 + r.Intn(min(api.MaxMicros, api.MaxRows/crew))
			a := someAsked(r, 1+r.Intn(api.MaxSide), someWords(r, 1+r.Intn(api.MaxLayers)), crew, parts)
			var l []api.Batch
			for range count {
				rows, m := rowsFor(r, crew, parts), makers(r)[r.Intn(5)]
				l = append(l, batchOf(m.matrix(rows, a.b.In.Cols), m.matrix(rows, a.b.Want.Cols)))
			}
			a.mustAll(t, fmt.Sprint(count, " batches"), l...)
			if got, want := a.oneAndOne(l), a.all(l...); got != want {
				t.Errorf("%d batches: One and One(%v, %v) =\n%s\nwant\n%s", count, a, l, got, want)
			}
		}
	}
}

func (a asked) oneAndOne(l []api.Batch) string {
	s, offs := a.s, []int{}
	for _, b := range l {
		next, off, err := One(s, b, a.crew, a.parts, a.r)
		if err != nil {
			return plain.Told(err).Error()
		}
		s, offs = next, append(offs, off)
	}
	return answer(s, offs, nil)
}
