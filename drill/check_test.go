package drill

import (
	"fmt"
	"math"
	"slices"
	"testing"

	"galley/api"
	"galley/plain"
	"galley/train"
)

// fault is one thing that is wrong.
type fault struct {
	name  string
	spoil func(a *asked)
	told  api.Errno
}

func countFaults() []fault {
	var l []fault
	for _, more := range []int{16, 17, 300} {
		l = append(l, fault{fmt.Sprint(5+more, " batches"), func(a *asked) { a.l = append(a.l, make([]api.Batch, more)...) }, api.ErrFull})
	}
	return append(l, fault{"21 right batches", func(a *asked) {
		a.l = append(a.l, slices.Repeat(small().l, 4)[:16]...)
	}, api.ErrFull})
}

func everyFaults() []fault {
	var l []fault
	for _, every := range []int{0, -1, -2, 21, 22, 100, math.MinInt, math.MaxInt, 1 << 32, 1<<32 + 2} {
		l = append(l, fault{fmt.Sprint("every ", every), func(a *asked) { a.every = every }, api.ErrRange})
	}
	return l
}

// manyFaults are falls of which none is wrong by itself, but that there are so many.
func manyFaults() []fault {
	var l []fault
	for _, count := range []int{21, 22, 1000} {
		l = append(l, fault{fmt.Sprint(count, " falls"), func(a *asked) {
			for i := len(a.falls); i < count; i++ {
				a.falls = append(a.falls, 100+i)
			}
		}, api.ErrFull})
	}
	return l
}

// fallFaults are of falls that are all there is.
func fallFaults() []fault {
	var l []fault
	for _, c := range []struct {
		falls []int
		told  api.Errno
	}{
		{fallsOf(0), api.ErrRange},
		{fallsOf(-1), api.ErrRange},
		{fallsOf(math.MinInt), api.ErrRange},
		{fallsOf(0, 1), api.ErrRange},
		{fallsOf(1, 0), api.ErrRange},
		{fallsOf(1, -1), api.ErrRange},
		{fallsOf(0, 0), api.ErrRange},
		{fallsOf(-2, -1), api.ErrRange},
		{fallsOf(1, 2, 0), api.ErrRange},
		{fallsOf(0, 2, 2), api.ErrRange},
		{fallsOf(3, math.MinInt, 3), api.ErrRange},
		{fallsOf(1, 1), api.ErrOrder},
		{fallsOf(2, 1), api.ErrOrder},
		{fallsOf(1, 2, 2), api.ErrOrder},
		{fallsOf(1, 3, 2), api.ErrOrder},
		{fallsOf(2, 1, 3), api.ErrOrder},
		{fallsOf(1, 2, 1), api.ErrOrder},
		{fallsOf(5, 5, 0), api.ErrOrder},
		{fallsOf(5, 4, -1, 3), api.ErrOrder},
		{fallsOf(math.MaxInt, math.MaxInt), api.ErrOrder},
		{fallsOf(math.MaxInt, 1), api.ErrOrder},
		// Nor where no try comes to such a number.
		{fallsOf(1000, 1000), api.ErrOrder},
		{fallsOf(1000, 0), api.ErrRange},
	} {
		l = append(l, fault{fmt.Sprint("falls ", c.falls), func(a *asked) { a.falls = slices.Clone(c.falls) }, c.told})
	}
	return l
}

// lastFallFaults are of the last of 20.
func lastFallFaults() []fault {
	last := func(try int, told api.Errno) fault {
		return fault{fmt.Sprint("19 falls, then ", try), func(a *asked) {
			a.falls = nil
			for i := range 19 {
				a.falls = append(a.falls, 2*(i+1))
			}
			a.falls = append(a.falls, try)
		}, told}
	}
	return []fault{last(0, api.ErrRange), last(-38, api.ErrRange), last(38, api.ErrOrder), last(37, api.ErrOrder), last(1, api.ErrOrder)}
}

// stateFaults are what train's Check says.
func stateFaults() []fault {
	return []fault{
		{"13 layers", func(a *asked) { a.s.Net = append(a.s.Net, make([]api.Layer, 9)...) }, api.ErrFull},
		{"a speed too few", func(a *asked) { a.s.Speed = a.s.Speed[:3] }, api.ErrShape},
		{"a speed too many", func(a *asked) { a.s.Speed = append(a.s.Speed, api.Grad{}) }, api.ErrShape},
		{"Steps below 0", func(a *asked) { a.s.Steps = -1 }, api.ErrRange},
		{"Steps far below 0", func(a *asked) { a.s.Steps = math.MinInt }, api.ErrRange},
		{"Steps above 10^9", func(a *asked) { a.s.Steps = 1e9 + 1 }, api.ErrRange},
		{"Steps far above", func(a *asked) { a.s.Steps = math.MaxInt }, api.ErrRange},
		{"no such Kind", func(a *asked) { a.s.Net[1].Kind = 5 }, api.ErrRange},
		{"a layer's cells", func(a *asked) { a.s.Net[0].W.Cells = nil }, api.ErrShape},
		{"a layer's cell", func(a *asked) { a.s.Net[3].B.Cells[2] = top + 1 }, api.ErrRange},
		{"a layer's shape", func(a *asked) { a.s.Net[1].W = of(1, 1, 1) }, api.ErrShape},
		{"a speed's cell", func(a *asked) { a.s.Speed[0].W.Cells[0] = math.MinInt }, api.ErrRange},
		{"a speed's shape", func(a *asked) { a.s.Speed[2].B = of(1, 1, 0) }, api.ErrShape},
	}
}

// stepsFaults are of states of which train's Check says nothing.
func stepsFaults() []fault {
	var l []fault
	for _, steps := range []int{1e9 - 19, 1e9 - 18, 1e9 - 5, 1e9 - 1, 1e9} {
		l = append(l, fault{fmt.Sprint(steps, " Steps"), func(a *asked) { a.s.Steps = steps }, api.ErrRange})
	}
	return l
}

// batchFaults are what train's One says of one batch, and of no other.
func batchFaults(i int) []fault {
	at := func(name string, told api.Errno, spoil func(b *api.Batch)) fault {
		return fault{fmt.Sprintf("batch %d, %s", i, name), func(a *asked) { spoil(&a.l[i]) }, told}
	}
	return []fault{
		at("In's cell", api.ErrRange, func(b *api.Batch) { b.In.Cells[5] = top + 1 }),
		at("In's cells", api.ErrShape, func(b *api.Batch) { b.In.Cells = nil }),
		at("In's rows", api.ErrRange, func(b *api.Batch) { b.In = full(25, 2, 0) }),
		at("Want's cell", api.ErrRange, func(b *api.Batch) { b.Want.Cells[8] = -top - 1 }),
		at("Want's cells", api.ErrShape, func(b *api.Batch) { b.Want.Cells = b.Want.Cells[:8] }),
		at("Want's rows", api.ErrShape, func(b *api.Batch) { b.Want = full(4, 3, 0) }),
		at("no rows", api.ErrShape, func(b *api.Batch) { *b = api.Batch{} }),
		at("fewer rows than parts", api.ErrShape, func(b *api.Batch) { *b = batchOf(full(1, 2, 0), full(1, 3, 0)) }),
		at("In's columns", api.ErrShape, func(b *api.Batch) { b.In = full(3, 3, 0) }),
		at("Want's columns", api.ErrShape, func(b *api.Batch) { b.Want = full(3, 2, 0) }),
	}
}

// wholeFaults are what train's One says of each batch, so of the first one.
func wholeFaults() []fault {
	parts := func(n int, told api.Errno) fault {
		return fault{fmt.Sprint(n, " parts"), func(a *asked) { a.parts = n }, told}
	}
	rates := func(learn, keep int) fault {
		r := api.Rates{Learn: learn, Keep: keep}
		return fault{fmt.Sprint("rates ", r), func(a *asked) { a.r = r }, api.ErrRange}
	}
	wide := fault{"13 rows in a part", func(a *asked) {
		a.l[0], a.parts = batchOf(full(13, 2, 1), full(13, 3, 1)), 1
	}, api.ErrRange}
	return []fault{
		parts(0, api.ErrRange), parts(math.MinInt, api.ErrRange), parts(13, api.ErrRange), parts(math.MaxInt, api.ErrRange),
		parts(4, api.ErrShape), parts(12, api.ErrShape), wide,
		rates(-1, 0), rates(257, 0), rates(0, -1), rates(256, 257), rates(math.MinInt, math.MaxInt),
	}
}

// groups has all faults in the order in which they are told.
func groups() [][]fault {
	ones := wholeFaults()
	for i := range small().l {
		ones = append(ones, batchFaults(i)...)
	}
	return [][]fault{
		countFaults(), everyFaults(), manyFaults(), slices.Concat(fallFaults(), lastFallFaults()), stateFaults(), stepsFaults(), ones,
	}
}

func everyFault() []fault { return slices.Concat(groups()...) }

// fallings are falls with which nothing is wrong: none comes, or each batch is
// tried again, or all of them come ahead of the first batch.
func fallings() [][]int {
	return [][]int{nil, {1000}, {1}, {2}, {2, 4, 6}, {1, 2, 3, 4, 5, 6, 7, 8, 9, 10, 11, 12, 13, 14, 15, 16, 17, 18, 19, 20}}
}

func TestD2OneFault(t *testing.T) {
	small().must(t, "nothing is wrong")
	for _, f := range everyFault() {
		a := small()
		f.spoil(&a)
		a.refuse(t, f.name, f.told)
	}
}

// TestD2WhatIsToldFirst: two things are wrong, the one that is told first is
// laid over the other, so that it is there.
func TestD2WhatIsToldFirst(t *testing.T) {
	all := groups()
	for i, group := range all {
		for _, f := range group {
			for _, s := range slices.Concat(all[i+1:]...) {
				a := small()
				s.spoil(&a)
				f.spoil(&a)
				a.refuse(t, f.name+", and "+s.name, f.told)
			}
		}
	}
}

// TestD2AllAtOnce takes away what is told, one behind the other.
func TestD2AllAtOnce(t *testing.T) {
	a := asked{
		s:     train.State{Net: make([]api.Layer, 13), Steps: 1e9 + 1},
		l:     make([]api.Batch, 21),
		parts: -1,
		r:     api.Rates{Learn: 257, Keep: -1},
		every: 0,
		falls: append(make([]int, 1), someOnes(20)...),
	}
	for _, c := range []struct {
		told api.Errno
		mend func()
	}{
		{api.ErrFull, func() { a.l = a.l[:20] }},
		{api.ErrRange, func() { a.every = 21 }},
		{api.ErrRange, func() { a.every = 20 }},
		{api.ErrFull, func() { a.falls = a.falls[:20] }},
		{api.ErrRange, func() { a.falls = a.falls[1:] }},
		{api.ErrOrder, func() { a.falls = a.falls[:1] }},
		{api.ErrFull, func() { a.s.Net = a.s.Net[:12] }},
		{api.ErrShape, func() { a.s.Speed = make([]api.Grad, 12) }},
		{api.ErrRange, func() { a.s.Steps = 1e9 }},
		{api.ErrRange, func() { a.s.Net = slices.Repeat([]api.Layer{reluOf()}, 12) }},
		{api.ErrRange, func() { a.s.Steps = 1e9 - 20 }},
		{api.ErrShape, func() { a.l[0] = batchOf(of(2, 1, 3, 4), of(2, 2, 5, 6, 7, 8)) }},
		{api.ErrRange, func() { a.parts = 3 }},
		{api.ErrShape, func() { a.parts = 2 }},
		{api.ErrShape, func() { a.l[0].Want = of(2, 1, 5, 6) }},
		{api.ErrRange, func() { a.r.Learn = 256 }},
		{api.ErrRange, func() { a.r.Keep = 0 }},
		{api.ErrShape, func() { a.l = slices.Repeat(a.l[:1], 20) }},
	} {
		a.refuse(t, "all at once", c.told)
		c.mend()
	}
	a.must(t, "all mended")
}

func someOnes(count int) []int { return slices.Repeat([]int{1}, count) }

// TestD2OfNoBatches: all is asked but what train's One says.
func TestD2OfNoBatches(t *testing.T) {
	all := groups()
	for _, f := range slices.Concat(all[1:6]...) {
		a := small()
		f.spoil(&a)
		a.l = nil
		a.refuse(t, "no batches, "+f.name, f.told)
	}
	for _, f := range wholeFaults() {
		a := small()
		f.spoil(&a)
		a.l = nil
		if got, want := a.run(), answer(small().s, 0, nil); got != want {
			t.Errorf("no batches, %s: Run =\n%s\nwant\n%s", f.name, got, want)
		}
	}
}

// TestD2HowManyBatches: MaxEpochs, and not one more.
func TestD2HowManyBatches(t *testing.T) {
	for count := range api.MaxEpochs + 3 {
		for _, falls := range fallings() {
			a := line(count, 3, falls...)
			if count > api.MaxEpochs {
				a.refuse(t, fmt.Sprint(count, " batches"), api.ErrFull)
				continue
			}
			a.must(t, fmt.Sprint(count, " batches"))
		}
	}
}

// TestD2Every: from 1 to MaxEpochs, however many batches there are.
func TestD2Every(t *testing.T) {
	for every := -2; every <= api.MaxEpochs+3; every++ {
		for _, count := range []int{0, 1, 4, 20} {
			for _, falls := range fallings() {
				a := line(count, every, falls...)
				name := fmt.Sprintf("every %d, %d batches", every, count)
				if every < 1 || every > 20 {
					a.refuse(t, name, api.ErrRange)
					continue
				}
				a.must(t, name)
			}
		}
	}
}

// TestD2HowManyFalls: 20, and not one more, whether they come or not.
func TestD2HowManyFalls(t *testing.T) {
	for count := range 24 {
		for _, first := range []int{1, 2, 5, 1000} {
			for _, batches := range []int{0, 1, 6} {
				a := line(batches, 4)
				for i := range count {
					a.falls = append(a.falls, first+i)
				}
				name := fmt.Sprintf("%d falls from %d on, %d batches", count, first, batches)
				if count > 20 {
					a.refuse(t, name, api.ErrFull)
					continue
				}
				a.must(t, name)
			}
		}
	}
}

// TestD2TwoFalls: each from 1 on, the second one greater than the first.
func TestD2TwoFalls(t *testing.T) {
	edges := []int{math.MinInt, -2, -1, 0, 1, 2, 3, 4, 5, 6, 7, 1 << 32, math.MaxInt - 1, math.MaxInt}
	for _, x := range edges {
		for _, y := range edges {
			a := line(5, 2, x, y)
			name := fmt.Sprint("falls ", x, " ", y)
			switch {
			case x < 1 || y < 1:
				a.refuse(t, name, api.ErrRange)
			case y <= x:
				a.refuse(t, name, api.ErrOrder)
			default:
				a.must(t, name)
			}
		}
	}
}

// TestD2Steps: just at 10^9 less MaxEpochs, and one more, however many batches there are.
func TestD2Steps(t *testing.T) {
	for _, count := range []int{0, 1, 2, 19, 20} {
		for steps := int(1e9) - 23; steps <= 1e9+1; steps++ {
			a := line(count, 7, 2, 9)
			a.s.Steps = steps
			name := fmt.Sprintf("%d Steps, %d batches", steps, count)
			if steps > 1e9-20 {
				a.refuse(t, name, api.ErrRange)
				continue
			}
			a.must(t, name)
		}
	}
	a := line(20, 1)
	a.s.Steps = 1e9 - 20
	if s, _, err := Run(a.s, a.l, a.parts, a.r, a.every, a.falls); s.Steps != 1e9 || err != nil {
		t.Errorf("as many Steps as may be: %v, %v", s, err)
	}
}

// TestD2Batches: what train's One says of a batch is told wherever it stands,
// and however often those ahead, or it itself, are tried again.
func TestD2Batches(t *testing.T) {
	for _, falls := range fallings() {
		for every := 1; every <= 6; every++ {
			for i := range small().l {
				for _, f := range batchFaults(i) {
					a := small()
					a.falls, a.every = falls, every
					f.spoil(&a)
					a.refuse(t, fmt.Sprintf("every %d, falls %v, %s", every, falls, f.name), f.told)
				}
			}
			for _, f := range wholeFaults() {
				a := small()
				a.falls, a.every = falls, every
				f.spoil(&a)
				a.refuse(t, fmt.Sprintf("every %d, falls %v, %s", every, falls, f.name), f.told)
			}
		}
	}
}

// TestD2BatchByBatch: what is wrong with one is told ahead of what is wrong with a later one.
func TestD2BatchByBatch(t *testing.T) {
	for _, falls := range fallings() {
		for i := range small().l {
			for j := i + 1; j < len(small().l); j++ {
				for _, f := range batchFaults(i) {
					for _, s := range batchFaults(j) {
						a := small()
						a.falls = falls
						f.spoil(&a)
						s.spoil(&a)
						a.refuse(t, fmt.Sprintf("falls %v, %s, and %s", falls, f.name, s.name), f.told)
					}
				}
			}
		}
	}
	for _, f := range wholeFaults() {
		for _, s := range batchFaults(3) {
			a := small()
			f.spoil(&a)
			s.spoil(&a)
			a.refuse(t, f.name+", and "+s.name, f.told)
		}
	}
}

// TestD2OneOrderByHand has what train's One says of a batch in its own order.
func TestD2OneOrderByHand(t *testing.T) {
	beyond := api.Rates{Learn: 257, Keep: -1}
	for _, falls := range fallings() {
		for _, c := range []struct {
			name  string
			spoil func(a *asked)
			told  api.Errno
		}{
			{"the batch, ahead of parts", func(a *asked) { a.l[0], a.parts = api.Batch{}, 0 }, api.ErrShape},
			{"a cell, ahead of more parts than rows", func(a *asked) { a.l[0].In.Cells[0], a.parts = top+1, 4 }, api.ErrRange},
			{"parts, ahead of In's columns", func(a *asked) { a.l[0].In, a.parts = full(3, 3, 0), 13 }, api.ErrRange},
			{"In's columns, ahead of rates", func(a *asked) { a.l[0].In, a.r = full(3, 3, 0), beyond }, api.ErrShape},
			{"more parts than rows, ahead of rates", func(a *asked) { a.parts, a.r = 4, beyond }, api.ErrShape},
			{"rates, ahead of the next batch", func(a *asked) { a.l[1], a.r = api.Batch{}, beyond }, api.ErrRange},
			{"parts, ahead of the next batch", func(a *asked) { a.l[1].In.Cells[0], a.parts = top+1, 4 }, api.ErrShape},
		} {
			a := small()
			a.falls = falls
			c.spoil(&a)
			a.refuse(t, fmt.Sprintf("falls %v, %s", falls, c.name), c.told)
		}
	}
}

// toldOf goes by what the chapter says; what other chapters say is asked of train.
func toldOf(a asked) api.Errno {
	if len(a.l) > 20 {
		return api.ErrFull
	}
	if a.every <= 0 || a.every >= 21 {
		return api.ErrRange
	}
	if len(a.falls) > 20 {
		return api.ErrFull
	}
	for i := range a.falls {
		if a.falls[i] <= 0 {
			return api.ErrRange
		}
		if i > 0 && a.falls[i-1] >= a.falls[i] {
			return api.ErrOrder
		}
	}
	if err := train.Check(a.s); err != nil {
		return plain.Told(err)
	}
	if a.s.Steps >= 1e9-19 {
		return api.ErrRange
	}
	_, _, err := train.All(a.s, a.l, a.parts, a.r)
	return plain.Told(err)
}

// TestRuleP1AllSorts asks of what can be put together of doubtful ones, and
// holds it against what the chapter says.
func TestRuleP1AllSorts(t *testing.T) {
	n := small().s.Net
	states := []train.State{
		{}, {Steps: -1}, {Steps: 1e9 - 20}, {Steps: 1e9 - 19}, {Steps: math.MaxInt}, small().s, train.Begin(n[1:3]),
		train.Begin(slices.Repeat(n[1:2], 13)), train.Begin([]api.Layer{shiftOf(1, 2), shiftOf(1)}), {Net: n}, {Speed: small().s.Speed},
	}
	right, three := small().l, batchOf(full(3, 3, 5), full(3, 3, -top))
	lists := [][]api.Batch{
		nil, right[:1], right, {three}, {three, three, three}, {three, right[0]}, {right[0], three}, {{}}, {three, {}},
		slices.Repeat([]api.Batch{three}, 20), slices.Repeat([]api.Batch{three}, 21), make([]api.Batch, 20), make([]api.Batch, 21),
		{batchOf(of(-1, 0), of(1, 1))}, {batchOf(of(1, 1, top+1), of(1, 1, 0))},
	}
	twenty := fallings()[5]
	falls := [][]int{nil, {1}, {2, 3}, {1, 3, 5}, {0}, {3, 3}, {math.MaxInt}, {math.MinInt}, twenty, append(slices.Clone(twenty), 21), make([]int, 21)}
	count := map[api.Errno]int{}
	for _, s := range states {
		for _, l := range lists {
			for _, every := range []int{math.MinInt, -1, 0, 1, 2, 3, 20, 21, math.MaxInt} {
				for _, f := range falls {
					for _, parts := range []int{math.MinInt, 1, 3, 13} {
						for _, r := range []api.Rates{{Learn: 9, Keep: 9}, {Learn: -1}, {Keep: 257}} {
							a := asked{s, l, parts, r, every, f}
							told := toldOf(a)
							count[told]++
							if told == api.OK {
								a.must(t, "all sorts")
								continue
							}
							a.refuse(t, "all sorts", told)
						}
					}
				}
			}
		}
	}
	for _, told := range []api.Errno{api.OK, api.ErrShape, api.ErrRange, api.ErrFull, api.ErrOrder} {
		if count[told] < 100 {
			t.Errorf("few of a sort: %v", count)
		}
	}
}
