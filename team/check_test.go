package team

import (
	"fmt"
	"math"
	"slices"
	"testing"

	"galley/api"
	"galley/plain"
	"galley/train"
)

// fault is one thing that is wrong.
type fault struct {
	name  string
	spoil func(a *asked)
	told  api.Errno
}

// stateFaults are what train's Check says, so they are told of no batches, too.
func stateFaults() []fault {
	return []fault{
		{"13 layers", func(a *asked) { a.s.Net = append(a.s.Net, make([]api.Layer, 9)...) }, api.ErrFull},
		{"a speed too few", func(a *asked) { a.s.Speed = a.s.Speed[:3] }, api.ErrShape},
		{"a speed too many", func(a *asked) { a.s.Speed = append(a.s.Speed, api.Grad{}) }, api.ErrShape},
		{"Steps below 0", func(a *asked) { a.s.Steps = -1 }, api.ErrRange},
		{"Steps above", func(a *asked) { a.s.Steps = 1e9 + 1 }, api.ErrRange},
		{"no such Kind", func(a *asked) { a.s.Net[1].Kind = 5 }, api.ErrRange},
		{"a layer's cells", func(a *asked) { a.s.Net[0].W.Cells = nil }, api.ErrShape},
		{"a layer's cell", func(a *asked) { a.s.Net[3].B.Cells[2] = top + 1 }, api.ErrRange},
		{"a layer's shape", func(a *asked) { a.s.Net[1].W = of(1, 1, 1) }, api.ErrShape},
		{"a speed's cell", func(a *asked) { a.s.Speed[0].W.Cells[0] = math.MinInt }, api.ErrRange},
		{"a speed's shape", func(a *asked) { a.s.Speed[2].B = of(1, 1, 0) }, api.ErrShape},
	}
}

func crewFaults() []fault {
	var l []fault
	for _, crew := range []int{0, -1, 7, 8, 256, math.MinInt, math.MaxInt, 1 << 32, 1<<32 + 2} {
		l = append(l, fault{fmt.Sprint(crew, " hands"), func(a *asked) { a.crew = crew }, api.ErrRange})
	}
	return l
}

// batchFaults are what batch's Check says: of all rows, whichever hand gets them.
func batchFaults() []fault {
	return []fault{
		{"In's first cell", func(a *asked) { a.b.In.Cells[0] = top + 1 }, api.ErrRange},
		{"In's last cell", func(a *asked) { a.b.In.Cells[9] = -top - 1 }, api.ErrRange},
		{"In's cells", func(a *asked) { a.b.In.Cells = nil }, api.ErrShape},
		{"In's rows", func(a *asked) { a.b.In = full(25, 2, 0) }, api.ErrRange},
		{"In's columns beyond", func(a *asked) { a.b.In = full(5, 13, 0) }, api.ErrRange},
		{"Want's first cell", func(a *asked) { a.b.Want.Cells[0] = math.MinInt }, api.ErrRange},
		{"Want's last cell", func(a *asked) { a.b.Want.Cells[14] = top + 1 }, api.ErrRange},
		{"Want's cells", func(a *asked) { a.b.Want.Cells = a.b.Want.Cells[:14] }, api.ErrShape},
		{"a row fewer in Want", func(a *asked) { a.b.Want = full(4, 3, 0) }, api.ErrShape},
		{"a row more in Want", func(a *asked) { a.b.Want = full(6, 3, 0) }, api.ErrShape},
		{"no rows", func(a *asked) { a.b = api.Batch{} }, api.ErrShape},
	}
}

// fewFaults are fewer rows than hands.
func fewFaults() []fault {
	few := func(rows, crew int) fault {
		return fault{fmt.Sprint(rows, " rows, ", crew, " hands"), func(a *asked) {
			a.b, a.crew, a.parts = batchOf(full(rows, 2, 1), full(rows, 3, 1)), crew, 1
		}, api.ErrShape}
	}
	return []fault{few(1, 2), few(2, 3), few(5, 6), few(1, 6), {"5 rows, 6 hands", func(a *asked) { a.crew = 6 }, api.ErrShape}}
}

// handFaults are what train's One says of the first hand.
func handFaults() []fault {
	parts := func(n int) func(a *asked) { return func(a *asked) { a.parts = n } }
	one := func(rows int) func(a *asked) {
		return func(a *asked) { a.b, a.crew, a.parts = batchOf(full(rows, 2, 1), full(rows, 3, 1)), 1, 1 }
	}
	return []fault{
		{"no parts", parts(0), api.ErrRange},
		{"parts below 0", parts(math.MinInt), api.ErrRange},
		{"13 parts", parts(13), api.ErrRange},
		{"more parts than rows of any hand", parts(4), api.ErrShape},
		{"as many parts as rows of both hands", parts(5), api.ErrShape},
		{"In's columns", func(a *asked) { a.b.In = full(5, 3, 0) }, api.ErrShape},
		{"In's columns, none", func(a *asked) { a.b.In = of(5, 0) }, api.ErrShape},
		{"Want's columns", func(a *asked) { a.b.Want = full(5, 2, 0) }, api.ErrShape},
		{"Want's columns, none", func(a *asked) { a.b.Want = of(5, 0) }, api.ErrShape},
		{"one hand, 13 rows in a part", one(13), api.ErrRange},
		{"one hand, 24 rows in a part", one(24), api.ErrRange},
		{"Learn below 0", func(a *asked) { a.r.Learn = -1 }, api.ErrRange},
		{"Learn beyond", func(a *asked) { a.r.Learn = 257 }, api.ErrRange},
		{"Keep below 0", func(a *asked) { a.r.Keep = math.MinInt }, api.ErrRange},
		{"Keep beyond", func(a *asked) { a.r.Keep = 257 }, api.ErrRange},
	}
}

// lastFaults are of the last hands alone: they have a row less than the first one.
func lastFaults() []fault {
	last := func(rows, crew, parts int) fault {
		return fault{fmt.Sprint(rows, " rows, ", crew, " hands, ", parts, " parts"), func(a *asked) {
			a.b, a.crew, a.parts = batchOf(full(rows, 2, 1), full(rows, 3, 1)), crew, parts
		}, api.ErrShape}
	}
	return []fault{
		{"more parts than rows of the last hand", func(a *asked) { a.parts = 3 }, api.ErrShape},
		last(3, 2, 2), last(23, 2, 12), last(11, 6, 2), last(7, 6, 2), last(5, 3, 2), last(23, 6, 4), last(19, 6, 4),
	}
}

func everyFault() []fault {
	return slices.Concat(stateFaults(), crewFaults(), batchFaults(), fewFaults(), handFaults(), lastFaults())
}

func TestT2OneFault(t *testing.T) {
	small().must(t, "nothing is wrong")
	for _, f := range everyFault() {
		a := small()
		f.spoil(&a)
		a.refuse(t, f.name, f.told)
	}
}

// TestT2LastHandsAlone: there is nothing wrong with the first hand where the
// last one is refused; and with one part less, nothing with any.
func TestT2LastHandsAlone(t *testing.T) {
	for _, f := range lastFaults() {
		a := small()
		f.spoil(&a)
		hands := a.dealt()
		if _, _, err := train.One(a.s, hands[0], a.parts, a.r); err != nil {
			t.Errorf("%s: of the first hand train's One told %v", f.name, err)
		}
		if _, _, err := train.One(a.s, hands[len(hands)-1], a.parts, a.r); plain.Told(err) != f.told {
			t.Errorf("%s: of the last hand train's One told %v", f.name, err)
		}
		a.parts--
		a.must(t, f.name+", but one part less")
	}
}

// TestT2WhatIsToldFirst: two things are wrong, of which neither takes back the other.
func TestT2WhatIsToldFirst(t *testing.T) {
	// Those of the hands that bring no batch of their own.
	own, fewOwn := slices.Concat(handFaults()[:5], handFaults()[11:]), fewFaults()[4:]
	for _, pair := range [][2][]fault{
		{stateFaults(), crewFaults()},
		{stateFaults(), batchFaults()},
		{stateFaults(), fewFaults()},
		{stateFaults(), handFaults()},
		{stateFaults(), lastFaults()},
		{crewFaults(), batchFaults()},
		{crewFaults(), own},
		{crewFaults(), lastFaults()[:1]},
		{crewFaults(), handFaults()[5:9]},
		{batchFaults(), fewOwn},
		{batchFaults(), own},
		{batchFaults(), lastFaults()[:1]},
		{fewFaults(), own},
		{fewOwn, handFaults()[5:9]},
		{handFaults()[:5], handFaults()[5:9]},
		{handFaults()[5:9], handFaults()[11:]},
		{handFaults()[5:9], lastFaults()[:1]},
	} {
		for _, f := range pair[0] {
			for _, s := range pair[1] {
				a := small()
				s.spoil(&a)
				f.spoil(&a)
				a.refuse(t, f.name+", and "+s.name, f.told)
			}
		}
	}
}

// TestT2OrderByHand has of each two neighbours, where they are not told alike, both at once.
func TestT2OrderByHand(t *testing.T) {
	beyond := api.Rates{Learn: 257, Keep: -1}
	for _, c := range []struct {
		name  string
		spoil func(a *asked)
		told  api.Errno
	}{
		{"the state, ahead of the crew", func(a *asked) { a.s.Speed, a.crew = nil, 0 }, api.ErrShape},
		{"the state, ahead of the batch", func(a *asked) { a.s.Steps, a.b = -1, api.Batch{} }, api.ErrRange},
		{"the crew, ahead of no rows", func(a *asked) { a.b, a.crew = api.Batch{}, 7 }, api.ErrRange},
		{"the crew, ahead of more hands than rows", func(a *asked) { a.crew = 7 }, api.ErrRange},
		{"7 to 12 hands are parts that may be, but no crew", func(a *asked) {
			a.b, a.crew, a.parts = batchOf(full(24, 2, 1), full(24, 3, 1)), 12, 1
		}, api.ErrRange},
		{"a cell, ahead of fewer rows than hands", func(a *asked) { a.b.Want.Cells[14], a.crew = top+1, 6 }, api.ErrRange},
		{"no rows, ahead of parts", func(a *asked) { a.b, a.parts = api.Batch{}, 0 }, api.ErrShape},
		{"fewer rows than hands, ahead of parts", func(a *asked) { a.crew, a.parts = 6, 13 }, api.ErrShape},
		{"fewer rows than hands, ahead of rates", func(a *asked) { a.crew, a.r = 6, beyond }, api.ErrShape},
		{"parts, ahead of In's columns", func(a *asked) { a.b.In, a.parts = full(5, 3, 0), 0 }, api.ErrRange},
		{"In's columns, ahead of rates", func(a *asked) { a.b.In, a.r = full(5, 3, 0), beyond }, api.ErrShape},
		{"Want's columns, ahead of rates", func(a *asked) { a.b.Want, a.r = full(5, 1, 0), beyond }, api.ErrShape},
		{"more parts than rows of the first hand, ahead of rates", func(a *asked) { a.parts, a.r = 4, beyond }, api.ErrShape},
		{"the first hand's rates, ahead of parts of the last hand", func(a *asked) { a.parts, a.r = 3, beyond }, api.ErrRange},
		{"the first of six hands' rates, ahead of parts of the last hand", func(a *asked) {
			a.b, a.crew, a.parts, a.r = batchOf(full(11, 2, 1), full(11, 3, 1)), 6, 2, beyond
		}, api.ErrRange},
		{"columns, ahead of the greatest part of the one hand", func(a *asked) {
			a.b, a.crew, a.parts = batchOf(full(13, 3, 0), full(13, 3, 0)), 1, 1
		}, api.ErrShape},
		{"all at once", func(a *asked) {
			*a = asked{train.Begin(make([]api.Layer, 13)), batchOf(of(-1, 0), of(1, 1)), -1, -1, beyond}
		}, api.ErrFull},
		{"all at once but the state", func(a *asked) {
			a.b, a.crew, a.parts, a.r = batchOf(of(1, 1), of(1, 1)), -1, -1, beyond
		}, api.ErrRange},
	} {
		a := small()
		c.spoil(&a)
		a.refuse(t, c.name, c.told)
	}
}

// TestT2HowManyHands: from 1 to MaxCrew, if there is a row for each.
func TestT2HowManyHands(t *testing.T) {
	for crew := -1; crew <= 13; crew++ {
		for rows := 1; rows <= api.MaxRows; rows++ {
			for parts := 1; parts <= 13; parts++ {
				a := small()
				a.b, a.crew, a.parts = batchOf(full(rows, 2, rows), full(rows, 3, crew)), crew, parts
				name := fmt.Sprintf("%d hands, %d rows, %d parts", crew, rows, parts)
				least := rows / max(crew, 1)
				switch {
				case crew < 1 || crew > 6:
					a.refuse(t, name, api.ErrRange)
				case rows < crew:
					a.refuse(t, name, api.ErrShape)
				case parts > 12:
					a.refuse(t, name, api.ErrRange)
				case parts > least:
					a.refuse(t, name, api.ErrShape)
				case crew == 1 && parts == 1 && rows > 12:
					a.refuse(t, name, api.ErrRange)
				default:
					a.must(t, name)
				}
			}
		}
	}
}

// TestRuleP1AllSorts asks of what can be put together of doubtful ones, and
// holds it against what the chapter says.
func TestRuleP1AllSorts(t *testing.T) {
	n := small().s.Net
	states := []train.State{
		{}, {Steps: -1}, {Steps: 1e9}, small().s, train.Begin(n[1:3]), train.Begin(n[3:]), train.Begin(slices.Repeat(n[3:], 12)),
		train.Begin(slices.Repeat(n[1:2], 13)), train.Begin([]api.Layer{shiftOf(1, 2), shiftOf(1)}), {Net: n}, {Speed: small().s.Speed},
	}
	matrices := []api.Matrix{{}, of(1, 0), of(24, 0), full(1, 3, top), full(5, 2, 1), full(5, 3, -1), full(13, 3, 5), full(24, 3, -top), of(1, 1), of(-1, 0), of(1, 1, top+1)}
	count := map[api.Errno]int{}
	for _, s := range states {
		for _, in := range matrices {
			for _, want := range matrices {
				for _, crew := range []int{math.MinInt, 0, 1, 2, 5, 6, 7, math.MaxInt} {
					for _, parts := range []int{math.MinInt, 0, 1, 2, 3, 12, 13, math.MaxInt} {
						for _, r := range []api.Rates{{Learn: 9, Keep: 9}, {Learn: -1}, {Keep: 257}} {
							a := asked{s, batchOf(in, want), crew, parts, r}
							told := toldOf(a)
							count[told]++
							if told == api.OK {
								mustOnce(t, a)
								continue
							}
							a.refuse(t, "all sorts", told)
						}
					}
				}
			}
		}
	}
	if count[api.OK] < 100 || count[api.ErrShape] < 100 || count[api.ErrRange] < 100 || count[api.ErrFull] < 100 {
		t.Errorf("few of a sort: %v", count)
	}
}

// mustOnce is of a state that may be the last one of which something is learned.
func mustOnce(t *testing.T, a asked) {
	t.Helper()
	if got, want := a.one(), a.oneSlowly(); got != want {
		t.Errorf("One(%v) =\n%s\nwant\n%s", a, got, want)
	}
	a.mustAll(t, "all sorts", a.b)
}
