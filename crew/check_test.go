package crew

import (
	"fmt"
	"math"
	"slices"
	"testing"

	"galley/api"
	"galley/cut"
	"galley/plain"
	"galley/plan"
	"galley/train"
)

// toldOf is what the chapter says, in its order.
func toldOf(a asked) api.Errno {
	_, _, err := train.One(a.s, a.b, a.parts, a.r)
	if err == nil {
		err = cut.Check(a.ends, len(a.s.Net))
	}
	if err == nil {
		err = plan.Check(a.plan, a.parts)
	}
	if err != nil {
		return plain.Told(err)
	}
	if len(a.plan) != len(a.ends) {
		return api.ErrShape
	}
	if even, _ := plan.Even(a.plan, a.parts); !even {
		return api.ErrOrder
	}
	return api.OK
}

// fault is one thing that is wrong.
type fault struct {
	name  string
	spoil func(a *asked)
	told  api.Errno
}

// stateFaults are of the state, so they are told of no batches, too.
func stateFaults() []fault {
	return []fault{
		{"13 layers", func(a *asked) { a.s.Net = append(a.s.Net, make([]api.Layer, 9)...) }, api.ErrFull},
		{"a speed too few", func(a *asked) { a.s.Speed = a.s.Speed[:3] }, api.ErrShape},
		{"Steps below 0", func(a *asked) { a.s.Steps = -1 }, api.ErrRange},
		{"Steps above", func(a *asked) { a.s.Steps = 1e9 + 1 }, api.ErrRange},
		{"no such Kind", func(a *asked) { a.s.Net[1].Kind = 5 }, api.ErrRange},
		{"a layer's cells", func(a *asked) { a.s.Net[0].W.Cells = nil }, api.ErrShape},
		{"a layer's cell", func(a *asked) { a.s.Net[3].B.Cells[2] = top + 1 }, api.ErrRange},
		{"a speed's cell", func(a *asked) { a.s.Speed[0].W.Cells[0] = math.MinInt }, api.ErrRange},
		{"a speed's shape", func(a *asked) { a.s.Speed[2].B = of(1, 1, 0) }, api.ErrShape},
	}
}

// askedFaults are of the batch, of the parts and of the rates.
func askedFaults() []fault {
	one := func(b api.Batch) func(a *asked) { return func(a *asked) { a.b, a.parts, a.plan = b, 1, wave(2, 1) } }
	return []fault{
		{"In's cell", func(a *asked) { a.b.In.Cells[9] = top + 1 }, api.ErrRange},
		{"In's cells", func(a *asked) { a.b.In.Cells = nil }, api.ErrShape},
		{"Want's rows", func(a *asked) { a.b.Want = full(4, 3, 0) }, api.ErrShape},
		{"no rows", func(a *asked) { a.b = api.Batch{} }, api.ErrShape},
		{"no parts", func(a *asked) { a.parts = 0 }, api.ErrRange},
		{"13 parts", func(a *asked) { a.parts = 13 }, api.ErrRange},
		{"more parts than rows", func(a *asked) { a.parts, a.plan = 6, wave(2, 6) }, api.ErrShape},
		{"In's columns", func(a *asked) { a.b.In = full(5, 3, 0) }, api.ErrShape},
		{"Want's columns", func(a *asked) { a.b.Want = full(5, 2, 0) }, api.ErrShape},
		{"13 rows in a part", one(batchOf(full(13, 2, 0), full(13, 3, 0))), api.ErrRange},
		{"Learn", func(a *asked) { a.r.Learn = 257 }, api.ErrRange},
		{"Keep", func(a *asked) { a.r.Keep = -1 }, api.ErrRange},
	}
}

func trainFaults() []fault { return append(stateFaults(), askedFaults()...) }

func endsFaults() []fault {
	ends := func(told api.Errno, l ...int) fault {
		return fault{fmt.Sprint("ends ", l), func(a *asked) { a.ends = l }, told}
	}
	return []fault{
		ends(api.ErrShape),
		ends(api.ErrShape, []int{}...),
		ends(api.ErrShape, 1, 2, 3, 4, 5, 6, 7),
		ends(api.ErrOrder, 0, 4),
		ends(api.ErrOrder, -1, 4),
		ends(api.ErrOrder, 4, 4),
		ends(api.ErrOrder, 4, 2),
		ends(api.ErrOrder, 1, 3),
		ends(api.ErrOrder, 1, 5),
		ends(api.ErrOrder, math.MinInt, math.MaxInt),
	}
}

// planFaults are what plan's Check says.
func planFaults() []fault {
	acts := func(told api.Errno, stages ...string) fault {
		return fault{fmt.Sprint("plan ", stages), func(a *asked) { a.plan = read(stages...) }, told}
	}
	const right = "F0 F1 B0 B1"
	return []fault{
		acts(api.ErrRange),
		acts(api.ErrRange, slices.Repeat([]string{right}, 7)...),
		acts(api.ErrRange, right, "F0 F1 B0 B1 Z0"),
		acts(api.ErrRange, right, "F0 F1 B0 X1"),
		acts(api.ErrRange, "F0 F1 B0 B2", right),
		acts(api.ErrRange, right, "F0 F-1 B0 B1"),
		acts(api.ErrRange, "F0 F1 F2 B0 B1 B2", "F0 F1 F2 B0 B1 B2"),
		acts(api.ErrTwice, "F0 F1 F1 B0 B1", right),
		acts(api.ErrTwice, right, "F0 F1 B0 B0"),
		acts(api.ErrShape, "F0 B0", "F0 B0"),
		acts(api.ErrShape, right, ""),
		acts(api.ErrShape, right, "F0 F1 B0"),
		acts(api.ErrOrder, right, "F0 B1 F1 B0"),
		acts(api.ErrStuck, "F0 B0 F1 B1", right),
		acts(api.ErrStuck, "F1 B1 F0 B0", "F0 B0 F1 B1"),
	}
}

// countFaults are plans that have other stages than there are ends.
func countFaults() []fault {
	acts := func(l [][]api.Act) func(a *asked) { return func(a *asked) { a.plan = l } }
	ends := func(l ...int) func(a *asked) { return func(a *asked) { a.ends = l } }
	return []fault{
		{"one stage", acts(wave(1, 2)), api.ErrShape},
		{"three stages", acts(turns(3, 2)), api.ErrShape},
		{"six stages", acts(wave(6, 2)), api.ErrShape},
		{"one end", ends(4), api.ErrShape},
		{"three ends", ends(1, 2, 4), api.ErrShape},
		{"four ends", ends(1, 2, 3, 4), api.ErrShape},
	}
}

// unevenFaults are plans that can be done.
func unevenFaults() []fault {
	acts := func(stages ...string) fault {
		return fault{fmt.Sprint("uneven ", stages), func(a *asked) { a.plan = read(stages...) }, api.ErrOrder}
	}
	return []fault{
		acts("F0 F1 B1 B0", "F0 F1 B1 B0"),
		acts("F0 F1 B1 B0", "F0 F1 B0 B1"),
		acts("F0 F1 B0 B1", "F0 F1 B1 B0"),
		acts("F1 B1 F0 B0", "F1 B1 F0 B0"),
	}
}

func everyFault() []fault {
	return slices.Concat(trainFaults(), endsFaults(), planFaults(), countFaults(), unevenFaults())
}

func TestR2OneFault(t *testing.T) {
	small().must(t, "nothing is wrong")
	for _, f := range everyFault() {
		a := small()
		f.spoil(&a)
		a.refuse(t, f.name, f.told)
	}
}

// TestR2TrainSaysIt: these are faults that train's One tells, and the others are not.
func TestR2TrainSaysIt(t *testing.T) {
	for i, f := range everyFault() {
		a := small()
		f.spoil(&a)
		_, _, err := train.One(a.s, a.b, a.parts, a.r)
		if said := i < len(trainFaults()); said != (err != nil) || said && plain.Told(err) != f.told {
			t.Errorf("%s: train's One told %v", f.name, err)
		}
	}
}

// TestR2WhatIsToldFirst: two things are wrong, of which neither takes back the other.
func TestR2WhatIsToldFirst(t *testing.T) {
	for _, pair := range [][2][]fault{
		{trainFaults(), endsFaults()},
		{trainFaults(), planFaults()},
		{trainFaults(), countFaults()},
		{trainFaults(), unevenFaults()},
		{endsFaults(), planFaults()},
		{endsFaults(), unevenFaults()},
		{endsFaults(), countFaults()[:3]},
		{planFaults(), countFaults()[3:]},
		{countFaults()[3:], unevenFaults()},
	} {
		for _, f := range pair[0] {
			for _, s := range pair[1] {
				a := small()
				f.spoil(&a)
				s.spoil(&a)
				a.refuse(t, f.name+", and "+s.name, f.told)
			}
		}
	}
}

// TestR2PlanByHand: what is wrong with a plan is told in this order.
func TestR2PlanByHand(t *testing.T) {
	for _, c := range []struct {
		name string
		acts [][]api.Act
		told api.Errno
	}{
		{"stuck, and more stages", read("F0 B0 F1 B1", "F0 F1 B0 B1", "F0 F1 B0 B1"), api.ErrStuck},
		{"twice, and fewer stages", read("F0 F1 F1 B0 B1"), api.ErrTwice},
		{"a Backward too early, and fewer stages", read("F0 B1 F1 B0"), api.ErrOrder},
		{"missing, and not even", read("F0 F1 B1 B0", "F0 F1 B1"), api.ErrShape},
		{"more stages, and not even", read("F0 F1 B1 B0", "F0 F1 B1 B0", "F0 F1 B1 B0"), api.ErrShape},
		{"fewer stages, and not even", read("F0 F1 B1 B0"), api.ErrShape},
	} {
		a := small()
		a.plan = c.acts
		a.refuse(t, c.name, c.told)
	}
	a := small()
	a.s, a.b, a.ends, a.plan = train.Begin(a.s.Net[:1]), batchOf(full(5, 2, 1), full(5, 3, 1)), []int{1}, wave(1, 2)
	a.must(t, "one layer")
	a.ends, a.plan = []int{1, 2}, wave(2, 2)
	a.refuse(t, "one layer, two stages", api.ErrOrder)
}

// TestR2NoLayers: train's One takes a net without layers, but there are no cuts of it.
func TestR2NoLayers(t *testing.T) {
	for _, ends := range [][]int{nil, {}, {0}, {1}, {1, 2, 3, 4, 5, 6, 7}} {
		for _, acts := range [][][]api.Act{nil, wave(1, 1), read("F0")} {
			a := asked{train.State{}, batchOf(column(5), column(5)), ends, acts, 1, api.Rates{}}
			a.refuse(t, "no layers", api.ErrRange)
			a.parts = 2
			a.refuse(t, "no layers, and more parts than rows", api.ErrShape)
			if got, want := a.all(), answer(train.State{}, []int{}, nil); got != want {
				t.Errorf("no layers, no batches: All =\n%s\nwant\n%s", got, want)
			}
		}
	}
}

// TestR2AllSorts asks of what can be put together of doubtful ones, and holds it
// against what the chapter says.
func TestR2AllSorts(t *testing.T) {
	n := small().s.Net
	states := []train.State{{}, small().s, train.Begin(n[1:3]), train.Begin(n[3:]), train.Begin(slices.Repeat(n[1:2], 12)), {Steps: -1}}
	batches := []api.Batch{{}, small().b, batchOf(full(3, 3, 9), full(3, 3, 1)), batchOf(full(24, 3, 9), full(24, 3, 1)), batchOf(full(12, 1, 9), full(12, 1, top))}
	endses := [][]int{nil, {1}, {2}, {4}, {1, 2}, {2, 4}, {2, 1}, {2, 4, 12}, {1, 2, 3, 4, 5, 12}, {0}, {math.MaxInt}}
	plans := [][][]api.Act{nil, wave(1, 1), turns(1, 2), wave(1, 12), wave(2, 1), turns(2, 2), turns(2, 12), wave(3, 2), turns(3, 12), turns(6, 2), turns(6, 12),
		read("F0 F1 B1 B0", "F0 F1 B1 B0"), read("F0 B0 F1 B1", "F0 F1 B0 B1"), {nil}, {nil, nil}}
	count := 0
	for _, s := range states {
		for _, b := range batches {
			for _, ends := range endses {
				for _, acts := range plans {
					for _, parts := range []int{math.MinInt, 0, 1, 2, 12, 13, math.MaxInt} {
						a := asked{s, b, ends, acts, parts, api.Rates{Learn: 9, Keep: 9}}
						if told := toldOf(a); told != api.OK {
							a.refuse(t, "all sorts", told)
							continue
						}
						count++
						a.must(t, "all sorts")
					}
				}
			}
		}
	}
	if count < 20 {
		t.Errorf("only %d right ones", count)
	}
}
