package crew

import (
	"fmt"
	"math"
	"math/rand"
	"slices"
	"testing"

	"galley/api"
	"galley/train"
)

// TestR2AllOfNoBatches: the state is told as it is; of all else nothing is asked.
func TestR2AllOfNoBatches(t *testing.T) {
	for _, l := range [][]api.Batch{nil, {}, {small().b}} {
		l = l[:0]
		for _, f := range append(slices.Concat(askedFaults(), endsFaults(), planFaults(), countFaults(), unevenFaults()), fault{"nothing", func(*asked) {}, api.OK}) {
			a := small()
			f.spoil(&a)
			if got, want := a.all(l...), answer(small().s, []int{}, nil); got != want {
				t.Errorf("no batches, %s: All =\n%s\nwant\n%s", f.name, got, want)
			}
			for _, s := range stateFaults() {
				a := small()
				f.spoil(&a)
				s.spoil(&a)
				a.refuseAll(t, "no batches, "+s.name+", "+f.name, s.told, l...)
			}
		}
	}
	a := small()
	a.s.Steps = 1e9
	if got, want := a.all(), answer(a.s, []int{}, nil); got != want {
		t.Errorf("no batches, 10^9 Steps: All =\n%s\nwant\n%s", got, want)
	}
}

func TestR2AllHowManyBatches(t *testing.T) {
	for count := range api.MaxEpochs + 3 {
		a := small()
		l := slices.Repeat([]api.Batch{a.b}, count)
		if count > api.MaxEpochs {
			a.refuseAll(t, fmt.Sprint(count, " batches"), api.ErrFull, l...)
			continue
		}
		if got, want := a.all(l...), a.allByOne(l...); got != want {
			t.Errorf("%d batches: All =\n%s\nwant\n%s", count, got, want)
		}
	}
}

// TestR2AllIsFullFirst: ahead of all that is wrong with anything else.
func TestR2AllIsFullFirst(t *testing.T) {
	for _, f := range everyFault() {
		a := small()
		f.spoil(&a)
		a.refuseAll(t, "21, and "+f.name, api.ErrFull, slices.Repeat([]api.Batch{a.b}, 21)...)
		a.refuseAll(t, "20, and "+f.name, f.told, slices.Repeat([]api.Batch{a.b}, 20)...)
	}
	asked{parts: math.MinInt}.refuseAll(t, "many", api.ErrFull, make([]api.Batch, 10000)...)
}

// TestR2AllBatchByBatch: what is wrong with one is told ahead of what is wrong
// with the next, and nothing that was learned stands beside it.
func TestR2AllBatchByBatch(t *testing.T) {
	a := small()
	shape, far := batchOf(full(5, 3, 0), full(5, 3, 0)), batchOf(of(1, 1, top+1), of(1, 1, 0))
	for ahead := range api.MaxEpochs - 1 {
		l := slices.Repeat([]api.Batch{a.b}, ahead)
		name := fmt.Sprint("behind ", ahead)
		a.refuseAll(t, name, api.ErrShape, append(slices.Clone(l), shape)...)
		a.refuseAll(t, name, api.ErrShape, append(slices.Clone(l), shape, far)...)
		a.refuseAll(t, name, api.ErrRange, append(slices.Clone(l), far, shape)...)
		a.refuseAll(t, name, api.ErrRange, append(slices.Clone(l), far, a.b)...)
	}
	// The ends and the plan are asked with the first batch, behind what is wrong with it.
	a.ends = []int{4, 1}
	a.refuseAll(t, "a shape, and ends", api.ErrShape, shape, a.b)
	a.refuseAll(t, "ends, and a shape", api.ErrOrder, a.b, shape)
	a = small()
	a.plan = read("F0 B0 F1 B1", "F0 F1 B0 B1")
	a.refuseAll(t, "a cell, and the plan", api.ErrRange, far, a.b)
	a.refuseAll(t, "the plan, and a cell", api.ErrStuck, a.b, far)
}

// TestR2AllSteps: the last step may go one beyond 10^9, the next one may not be made.
func TestR2AllSteps(t *testing.T) {
	for left := range 4 {
		a := small()
		a.s.Steps = 1e9 - left
		l := slices.Repeat([]api.Batch{a.b}, left+1)
		if got, want := a.all(l...), a.allByOne(l...); got != want {
			t.Errorf("%d Steps: All =\n%s\nwant\n%s", a.s.Steps, got, want)
		}
		a.refuseAll(t, "one more", api.ErrRange, append(l, a.b)...)
		a.refuseAll(t, "a wrong one more", api.ErrRange, append(l, api.Batch{})...)
	}
}

// TestR1AllToTheLastBit: batches of many rows, one behind the other, are learned
// as train's All learns them, and as One does one by one.
func TestR1AllToTheLastBit(t *testing.T) {
	r := rand.New(rand.NewSource(7))
	for count := 1; count <= api.MaxEpochs; count++ {
		for _, p := range planners(r) {
			stages, parts := 1+r.Intn(api.MaxStages), 1+r.Intn(api.MaxMicros)
			a := someAsked(r, stages+r.Intn(api.MaxLayers-stages+1), stages, parts, p.plan)
			var l []api.Batch
			for range count {
				rows := parts + r.Intn(min(api.MaxRows, api.MaxSide*parts)-parts+1)
				l = append(l, batchOf(some(r, rows, a.b.In.Cols), some(r, rows, a.b.Want.Cols)))
			}
			want := a.allByOne(l...)
			if got := a.all(l...); got != want {
				t.Errorf("%d batches %s: All(%v, %v) =\n%s\nwant\n%s", count, p.name, a, l, got, want)
			}
			if got := oneAndOne(a, l); got != want {
				t.Errorf("%d batches %s: One and One(%v, %v) =\n%s\nwant\n%s", count, p.name, a, l, got, want)
			}
		}
	}
}

func oneAndOne(a asked, l []api.Batch) string {
	s, offs := a.s, []int{}
	for _, b := range l {
		next, off, err := One(s, b, a.ends, a.plan, a.parts, a.r)
		if err != nil {
			return answer(train.State{}, nil, err)
		}
		s, offs = next, append(offs, off)
	}
	return answer(s, offs, nil)
}
