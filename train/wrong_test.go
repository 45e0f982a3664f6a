package train

import (
	"fmt"
	"math"
	"slices"
	"testing"

	"galley/api"
	"galley/plain"
)

// sayFaults are what One says behind what it says of the state.
func sayFaults() []fault {
	in := func(m api.Matrix) func(a *asked) { return func(a *asked) { a.b.In = m } }
	want := func(m api.Matrix) func(a *asked) { return func(a *asked) { a.b.Want = m } }
	rows := func(n, parts int) func(a *asked) {
		return func(a *asked) { a.b, a.parts = batchOf(full(n, 2, 1), full(n, 3, 1)), parts }
	}
	parts := func(n int) func(a *asked) { return func(a *asked) { a.parts = n } }
	rate := func(learn, keep int) func(a *asked) { return func(a *asked) { a.r = rates(learn, keep) } }
	return []fault{
		{"In's cell", in(of(5, 2, 1, 2, 3, 4, 5, 6, 7, 8, 9, top+1)), api.ErrRange},
		{"In's cells", in(of(5, 2, 1)), api.ErrShape},
		{"Want's cell", want(of(1, 1, -top-1)), api.ErrRange},
		{"Want's cells", want(of(5, 3, 1)), api.ErrShape},
		{"Want's rows", want(full(4, 3, 1)), api.ErrShape},
		{"no rows", func(a *asked) { a.b = api.Batch{} }, api.ErrShape},
		{"no parts", parts(0), api.ErrRange},
		{"parts below 0", parts(math.MinInt), api.ErrRange},
		{"13 parts", parts(13), api.ErrRange},
		{"more parts than rows", parts(6), api.ErrShape},
		{"In's columns", in(full(5, 3, 1)), api.ErrShape},
		{"In's columns, none", in(of(5, 0)), api.ErrShape},
		{"Want's columns", want(full(5, 2, 1)), api.ErrShape},
		{"Want's columns, none", want(of(5, 0)), api.ErrShape},
		{"Want's columns, more", want(full(5, 4, 1)), api.ErrShape},
		{"13 rows in a part", rows(13, 1), api.ErrRange},
		{"24 rows in a part", rows(24, 1), api.ErrRange},
		{"Learn below 0", rate(-1, 0), api.ErrRange},
		{"Learn beyond", rate(257, 0), api.ErrRange},
		{"Learn far beyond", rate(math.MaxInt, 256), api.ErrRange},
		{"Keep below 0", rate(0, -1), api.ErrRange},
		{"Keep beyond", rate(256, 257), api.ErrRange},
		{"Keep far below", rate(256, math.MinInt), api.ErrRange},
	}
}

func TestT3OneFault(t *testing.T) {
	for _, f := range everyFault() {
		a := small()
		f.spoil(&a)
		a.refuse(t, f.name, f.told)
	}
}

// TestT3TheStateComesFirst: ahead of all that is wrong with what it is asked of.
func TestT3TheStateComesFirst(t *testing.T) {
	for _, f := range stateFaults() {
		for _, s := range sayFaults() {
			a := small()
			f.spoil(&a)
			s.spoil(&a)
			a.refuse(t, f.name+", and "+s.name, f.told)
		}
	}
}

// TestT3WhatIsToldFirst: two things are wrong. Spoiling one may take back the
// other, so it is held against what was said once more.
func TestT3WhatIsToldFirst(t *testing.T) {
	for _, f := range sayFaults() {
		for _, s := range sayFaults() {
			a := small()
			f.spoil(&a)
			s.spoil(&a)
			if told := toldOfOne(a); told != api.OK {
				a.refuse(t, f.name+", and "+s.name, told)
				continue
			}
			a.mustSlowly(t, f.name+", and "+s.name)
		}
	}
}

// TestT3OrderByHand has of each two neighbours, where they are not told alike, both at once.
func TestT3OrderByHand(t *testing.T) {
	beyond := rates(257, -1)
	for _, c := range []struct {
		name  string
		spoil func(a *asked)
		told  api.Errno
	}{
		{"the state, ahead of the batch", func(a *asked) { a.s.Steps, a.b = -1, api.Batch{} }, api.ErrRange},
		{"the speeds, ahead of a cell", func(a *asked) { a.s.Speed, a.b.In.Cells[0] = nil, top+1 }, api.ErrShape},
		{"the batch, ahead of parts", func(a *asked) { a.b.Want, a.parts = full(4, 3, 0), 0 }, api.ErrShape},
		{"a cell, ahead of more parts than rows", func(a *asked) { a.b.Want.Cells[0], a.parts = top+1, 6 }, api.ErrRange},
		{"parts, ahead of In's columns", func(a *asked) { a.b.In, a.parts = full(5, 3, 0), 13 }, api.ErrRange},
		{"In's columns, ahead of the greatest part", func(a *asked) {
			a.b, a.parts = batchOf(full(13, 3, 0), full(13, 3, 0)), 1
		}, api.ErrShape},
		{"Want's columns, ahead of the greatest part", func(a *asked) {
			a.b, a.parts = batchOf(full(13, 2, 0), full(13, 2, 0)), 1
		}, api.ErrShape},
		{"more parts than rows, ahead of rates", func(a *asked) { a.parts, a.r = 6, beyond }, api.ErrShape},
		{"In's columns, ahead of rates", func(a *asked) { a.b.In, a.r = full(5, 1, 0), beyond }, api.ErrShape},
		{"Want's columns, ahead of rates", func(a *asked) { a.b.Want, a.r = full(5, 1, 0), beyond }, api.ErrShape},
		{"the greatest part, and rates", func(a *asked) {
			a.b, a.parts, a.r = batchOf(full(13, 2, 0), full(13, 3, 0)), 1, beyond
		}, api.ErrRange},
		{"all at once", func(a *asked) {
			a.s, a.b, a.parts, a.r = Begin(make([]api.Layer, 13)), batchOf(of(-1, 0), of(1, 1)), -1, beyond
		}, api.ErrFull},
	} {
		a := small()
		c.spoil(&a)
		a.refuse(t, c.name, c.told)
	}
}

// TestT3GreatestPart: of MaxSide rows it may be, of one more not, also where no layer would mind.
func TestT3GreatestPart(t *testing.T) {
	for _, n := range [][]api.Layer{nil, netOf(reluOf()), netOf(scaleOf(300)), netOf(shiftOf(5)), netOf(linearOf(of(1, 1, 256), of(1, 1, 3)))} {
		for rows := 1; rows <= api.MaxRows; rows++ {
			for parts := 1; parts <= min(2, rows); parts++ {
				a := asked{Begin(n), batchOf(full(rows, 1, 100), full(rows, 1, 5)), parts, rates(3, 4)}
				name := fmt.Sprint(len(n), " layers, ", rows, " rows, ", parts, " parts")
				if rows > 12 && parts == 1 {
					a.refuse(t, name, api.ErrRange)
					continue
				}
				a.mustSlowly(t, name)
			}
		}
	}
}

func TestT3Rates(t *testing.T) {
	edges := []int{math.MinInt, -top, -257, -256, -1, 0, 1, 128, 255, 256, 257, 512, 1 << 32, math.MaxInt}
	for _, learn := range edges {
		for _, keep := range edges {
			a := small()
			a.r = rates(learn, keep)
			if learn < 0 || learn > 256 || keep < 0 || keep > 256 {
				a.refuse(t, "rates", api.ErrRange)
				continue
			}
			a.mustSlowly(t, "rates")
		}
	}
}

// TestT3WrongBatches: In, then Want, is wrong of itself.
func TestT3WrongBatches(t *testing.T) {
	for _, w := range wrong() {
		a := small()
		a.b.In = w.a
		a.refuse(t, "In: "+w.name, w.told)
		a = small()
		a.b.Want = w.a
		a.refuse(t, "Want: "+w.name, w.told)
		for _, v := range wrong() {
			a.b = batchOf(w.a, v.a)
			a.refuse(t, "In: "+w.name+"; Want: "+v.name, w.told)
		}
	}
}

func TestT3AllHowManyBatches(t *testing.T) {
	a := line(scaleOf(256), column(256, 5), column(0, 0), 2, rates(1, 100))
	for count := range api.MaxEpochs + 3 {
		l := slices.Repeat(batches(a.b), count)
		if count > api.MaxEpochs {
			refuseAll(t, fmt.Sprint(count, " batches"), a, l, api.ErrFull)
			continue
		}
		s, offs := allSlowly(a.s, l, a.parts, a.r)
		mustAll(t, fmt.Sprint(count, " batches"), a, l, s, offs, api.OK)
	}
}

// TestT3AllIsFullFirst: ahead of all that is wrong with the state, or with a batch.
func TestT3AllIsFullFirst(t *testing.T) {
	for _, f := range everyFault() {
		a := small()
		f.spoil(&a)
		refuseAll(t, "Full, and "+f.name, a, slices.Repeat(batches(a.b), 21), api.ErrFull)
		refuseAll(t, "20, and "+f.name, a, slices.Repeat(batches(a.b), 20), f.told)
	}
	refuseAll(t, "many", small(), make([]api.Batch, 10000), api.ErrFull)
}

// TestT3AllOfNoBatches: the state is told as it is; parts and rates are not asked.
func TestT3AllOfNoBatches(t *testing.T) {
	for _, parts := range []int{math.MinInt, -1, 0, 1, 2, 12, 13, math.MaxInt} {
		for _, r := range []api.Rates{{}, rates(256, 256), rates(-1, 0), rates(0, 257), rates(math.MinInt, math.MaxInt)} {
			for _, l := range [][]api.Batch{nil, {}, batches(small().b)[:0]} {
				a := small()
				a.parts, a.r = parts, r
				mustAll(t, "no batches", a, l, small().s, nil, api.OK)
				a.s.Steps = 1e9
				mustAll(t, "no batches, 10^9 Steps", a, l, stateOf(small().s.Net, small().s.Speed, 1e9), nil, api.OK)
				a.s = State{}
				mustAll(t, "no batches, no layers", a, l, State{}, nil, api.OK)
				for _, f := range stateFaults() {
					w := small()
					f.spoil(&w)
					w.parts, w.r = parts, r
					refuseAll(t, "no batches, "+f.name, w, l, f.told)
				}
			}
		}
	}
}

// TestT3AllBatchByBatch: what is wrong with one is told ahead of what is wrong
// with the next, and what was learned ahead of it does not stand beside the error.
func TestT3AllBatchByBatch(t *testing.T) {
	right := small()
	shape, far := batchOf(full(5, 3, 0), full(5, 3, 0)), batchOf(of(1, 1, top+1), of(1, 1, 0))
	wide := batchOf(full(24, 2, 1), full(24, 3, 1))
	for ahead := range 4 {
		l := slices.Repeat(batches(right.b), ahead)
		for _, c := range []struct {
			name string
			rest []api.Batch
			told api.Errno
		}{
			{"a shape", batches(shape), api.ErrShape},
			{"a cell", batches(far), api.ErrRange},
			{"a shape, then a cell", batches(shape, far), api.ErrShape},
			{"a cell, then a shape", batches(far, shape), api.ErrRange},
			{"a cell, then a right one", batches(far, right.b), api.ErrRange},
			{"more parts than rows", batches(batchOf(full(1, 2, 1), full(1, 3, 1)), far), api.ErrShape},
		} {
			refuseAll(t, fmt.Sprint(ahead, " right ones, ", c.name), right, slices.Concat(l, c.rest), c.told)
		}
		one := small()
		one.parts = 1
		refuseAll(t, fmt.Sprint(ahead, " right ones, the greatest part"), one, slices.Concat(l, batches(wide, shape)), api.ErrRange)
	}
}

// TestT3AllSteps: a batch that would be learned beyond 10^9 Steps is refused, ahead of what is wrong with it.
func TestT3AllSteps(t *testing.T) {
	for left := range 4 {
		a := small()
		a.s.Steps = 1e9 - left
		l := slices.Repeat(batches(a.b), left+1)
		s, offs := allSlowly(a.s, l, a.parts, a.r)
		mustAll(t, "as many as may be", a, l, s, offs, api.OK)
		if s.Steps != 1e9+1 {
			t.Errorf("%d Steps", s.Steps)
		}
		refuseAll(t, "one more", a, append(l, a.b), api.ErrRange)
		refuseAll(t, "a wrong one more", a, append(l, api.Batch{}), api.ErrRange)
		l[left] = api.Batch{}
		refuseAll(t, "the last one is wrong", a, l, api.ErrShape)
	}
}

// TestT3AllBy: who learns by a One of its own is asked batch by batch, each time
// of what the one ahead told, and no more once something is wrong.
func TestT3AllBy(t *testing.T) {
	for wrongAt := range api.MaxEpochs + 2 {
		count := 0
		one := func(s State, b api.Batch) (State, int, error) {
			if s.Steps != count || b.In.Rows != count {
				t.Errorf("call %d was asked of %v, %v", count, s, b)
			}
			count++
			if count > wrongAt {
				return State{}, 0, api.ErrNone
			}
			return State{Steps: count}, 10 * count, nil
		}
		var l []api.Batch
		var offs []int
		for i := range api.MaxEpochs {
			l, offs = append(l, batchOf(of(i, 0), of(i, 0))), append(offs, 10*(i+1))
		}
		s, got, err := AllBy(State{}, l, one)
		if wrongAt < len(l) {
			if !sameState(s, State{}) || len(got) != 0 || plain.Told(err) != api.ErrNone || count != wrongAt+1 {
				t.Errorf("wrong at %d: AllBy = %v, %v, %v", wrongAt, s, got, err)
			}
		} else if !sameState(s, State{Steps: len(l)}) || !slices.Equal(got, offs) || err != nil {
			t.Errorf("AllBy = %v, %v, %v; want %v", s, got, err, offs)
		}
	}
}

// doubtfulStates has states of all sorts, right and wrong.
func doubtfulStates() []State {
	all := []State{{}, {Steps: -1}, {Steps: 1e9}, {Steps: 1e9 + 1}, stateOf(netOf(reluOf()), nil, 0), stateOf(nil, gradsOf(api.Grad{}), 0)}
	for _, count := range []int{1, 2, 12, 13} {
		all = append(all, Begin(slices.Repeat(netOf(scaleOf(300)), count)), Begin(slices.Repeat(netOf(shiftOf(1, 2)), count)))
	}
	all = append(all,
		Begin(netOf(linearOf(full(2, 3, 100), full(1, 3, 5)), reluOf())),
		Begin(netOf(linearOf(full(1, 12, 100), full(1, 12, 5)), linearOf(full(12, 2, top), full(1, 2, -top)))),
		Begin(netOf(shiftOf(1, 2), shiftOf(1))),
		stateOf(netOf(scaleOf(1)), gradsOf(api.Grad{B: of(1, 1, 0)}), 0),
		stateOf(netOf(scaleOf(1)), gradsOf(api.Grad{W: of(1, 1, top+1)}), 0),
		stateOf(netOf(scaleOf(1)), gradsOf(api.Grad{W: of(0, 1)}), 0))
	for _, w := range wrongLayers() {
		all = append(all, Begin(netOf(w.l)))
	}
	return all
}

func doubtfulBatches() []api.Batch {
	ms := []api.Matrix{
		{}, of(1, 0), of(24, 0), of(1, 1, 256), of(1, 2, -1, 1), of(2, 1, 3, top), full(12, 1, 4), full(13, 2, 5), full(13, 3, -5),
		full(24, 1, -top), full(24, 2, 3), of(1, 2, 1), of(1, 1, top+1), of(-1, 0),
	}
	var all []api.Batch
	for _, in := range ms {
		for _, want := range ms {
			all = append(all, batchOf(in, want))
		}
	}
	return all
}

// TestRuleP1AllSorts asks all calls of what can be put together of doubtful
// ones, and holds them against what was said once more.
func TestRuleP1AllSorts(t *testing.T) {
	right := 0
	for _, s := range doubtfulStates() {
		mustCheck(t, "all sorts", s, toldOfState(s))
		for _, b := range doubtfulBatches() {
			for _, parts := range []int{math.MinInt, 0, 1, 2, 3, 12, 13} {
				for _, r := range []api.Rates{rates(64, 128), rates(257, 0), rates(0, -1)} {
					a := asked{s, b, parts, r}
					if told := toldOfOne(a); told != api.OK {
						a.must(t, "all sorts", State{}, 0, told)
						refuseAll(t, "all sorts", a, batches(b, b), told)
						continue
					}
					right++
					a.mustSlowly(t, "all sorts")
				}
			}
		}
	}
	if right < 100 {
		t.Errorf("only %d right ones", right)
	}
}
