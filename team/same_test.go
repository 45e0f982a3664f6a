package team

import (
	"fmt"
	"math/rand"
	"slices"
	"testing"

	"galley/api"
	"galley/train"
)

// oneHand is what train's One tells, with so many parts.
func (a asked) oneHand(parts int) string {
	s, off, err := train.One(a.s, a.b, parts, a.r)
	return answer(s, off, err)
}

func (a asked) allByOneHand(parts int, l ...api.Batch) string {
	s, offs, err := train.All(a.s, l, parts, a.r)
	return answer(s, offs, err)
}

// TestT3OneHand: it is train's One, also where sums come to their ends, and
// where something is wrong; and so batch by batch.
func TestT3OneHand(t *testing.T) {
	r := rand.New(rand.NewSource(7))
	for parts := 1; parts <= api.MaxMicros; parts++ {
		for layers := range api.MaxLayers + 1 {
			for range 5 {
				a := someAsked(r, 1+r.Intn(api.MaxSide), someWords(r, layers), 1, parts)
				mustBeOneHand(t, fmt.Sprint(parts, " parts, ", layers, " layers"), a)
			}
		}
	}
	for _, c := range counted {
		mustBeOneHand(t, c.words, someAsked(r, c.in, c.words, 1, 2))
	}
	for _, f := range slices.Concat(stateFaults(), batchFaults(), handFaults(), lastFaults()) {
		a := small()
		f.spoil(&a)
		a.crew = 1
		mustBeOneHand(t, f.name, a)
	}
}

func mustBeOneHand(t *testing.T, name string, a asked) {
	t.Helper()
	if got, want := a.one(), a.oneHand(a.parts); got != want {
		t.Errorf("%s: One(%v) =\n%s\ntrain's One told\n%s", name, a, got, want)
	}
	for _, l := range [][]api.Batch{{a.b}, {a.b, a.b, a.b}, {small().b, a.b}, nil} {
		if got, want := a.all(l...), a.allByOneHand(a.parts, l...); got != want {
			t.Errorf("%s: All(%v, %v) =\n%s\ntrain's All told\n%s", name, a, l, got, want)
		}
	}
}

// TestT3AllHandsAreOne: where no sum comes to an end, and all parts have as many
// rows, so many hands with so many parts are one hand with all these parts.
func TestT3AllHandsAreOne(t *testing.T) {
	r := rand.New(rand.NewSource(8))
	for crew, parts := range everyDeal {
		all := crew * parts
		for rows := all; all <= api.MaxMicros && rows <= min(api.MaxRows, api.MaxSide*all); rows += all {
			for _, c := range counted {
				m := upTo(r, 100)
				n, out := m.net(c.in, c.words)
				// To learn little keeps sums from their ends in what is learned later, too.
				a := asked{m.state(n, 5), batchOf(m.matrix(rows, c.in), m.matrix(rows, out)), crew, parts, api.Rates{Learn: 1, Keep: 90}}
				name := fmt.Sprintf("%d hands, %d parts, %d rows, %s", crew, parts, rows, c.words)
				mustBeCalm(t, name, a, 3)
				if got, want := a.one(), a.oneHand(all); got != want {
					t.Fatalf("%s: One(%v) =\n%s\ntrain's One told\n%s", name, a, got, want)
				}
				if got, want := a.all(a.b, a.b, a.b), a.allByOneHand(all, a.b, a.b, a.b); got != want {
					t.Fatalf("%s: All(%v) =\n%s\ntrain's All told\n%s", name, a, got, want)
				}
			}
		}
	}
}

// mustBeCalm holds that in so many steps no sum of parts comes to an end, in
// whatever order: those of what they have above 0 alone, or below, would not.
func mustBeCalm(t *testing.T, name string, a asked, steps int) {
	t.Helper()
	for range steps {
		parts := asked{b: a.b, crew: a.crew * a.parts}.dealt()
		sums, offs := make([]int, countOf(a.s.Net)), 0
		for _, part := range parts {
			one := asked{s: a.s, parts: 1}
			l, off := one.reckoned(part)
			for i, x := range l {
				sums[i] += max(x, -x)
			}
			offs += off
		}
		if offs >= top || len(sums) > 0 && slices.Max(sums) >= top {
			t.Fatalf("%s: of %v a sum may come to an end", name, a)
		}
		a.s, _ = a.slowly()
	}
}

// TestT3OnlyWhereItFollows: where a sum comes to an end, or parts have not as
// many rows, it need not be so.
func TestT3OnlyWhereItFollows(t *testing.T) {
	a := allShifts(1, top, top, -top)
	if a.one() == a.oneHand(3) {
		t.Errorf("sums come to their ends: One(%v) tells what train's One tells", a)
	}
	// Of six rows two hands have three each, and so their parts 2 1 2 1 rows; one
	// hand's four parts have 2 2 1 1. What is off by 16 in two rows of one part is
	// off by 1, and in one row by 0.
	a = asked{train.State{}, batchOf(column(0, 0, 16, 16, 0, 0), full(6, 1, 0)), 2, 2, api.Rates{}}
	told(t, "other parts", a, train.State{Steps: 1}, 0)
	if got, want := a.oneHand(4), answer(train.State{Steps: 1}, 1, nil); got != want {
		t.Errorf("other parts: train's One(%v) =\n%s\nwant\n%s", a, got, want)
	}
}
