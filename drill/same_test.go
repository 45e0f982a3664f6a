package drill

import (
	"fmt"
	"math/rand"
	"slices"
	"testing"

	"galley/api"
	"galley/crew"
	"galley/keep"
	"galley/plan"
	"galley/team"
	"galley/train"
)

// everyFalls goes through all falls that are no greater than a bound.
func everyFalls(bound int) func(yield func(falls []int) bool) {
	return func(yield func(falls []int) bool) {
		for bits := range 1 << bound {
			var falls []int
			for try := 1; try <= bound; try++ {
				if bits>>(try-1)&1 == 1 {
					falls = append(falls, try)
				}
			}
			if !yield(falls) {
				return
			}
		}
	}
}

// TestD3EveryFall: for all falls up to the eighth try it is what train's All
// tells, and there are as many tries as batches, falls that came, and what was lost.
func TestD3EveryFall(t *testing.T) {
	for count := range 7 {
		a := line(count, 1)
		want, _, err := train.All(a.s, a.l, a.parts, a.r)
		if err != nil {
			t.Fatal(err)
		}
		for a.every = 1; a.every <= count+2; a.every++ {
			for falls := range everyFalls(8) {
				a.falls = falls
				tries := slowTries(count, a.every, falls)
				came, lost := slowLosses(count, a.every, falls)
				if tries != count+came+lost {
					t.Errorf("%d tries by groups, %d by lists", tries, count+came+lost)
				}
				if got, want := a.run(), answer(want, tries, nil); got != want {
					t.Errorf("%d batches, every %d, falls %v: Run =\n%s\nwant\n%s", count, a.every, falls, got, want)
				}
			}
		}
	}
}

// TestD3OneFallAnywhere: with as many batches as may be, for every every, and a
// fall at each try, and where it does not come any more.
func TestD3OneFallAnywhere(t *testing.T) {
	for every := 1; every <= api.MaxEpochs; every++ {
		for try := 1; try <= 23; try++ {
			a := line(20, every, try)
			a.must(t, "one fall")
			tries := 20
			if try <= 20 {
				tries += 1 + (try-1)%every
			}
			if _, got, err := Run(a.s, a.l, a.parts, a.r, every, a.falls); got != tries || err != nil {
				t.Errorf("every %d, fall %d: %d tries, %v; want %d", every, try, got, err, tries)
			}
		}
	}
}

// TestD3AllSorts: nets of all sorts, also where sums come to their ends.
func TestD3AllSorts(t *testing.T) {
	r := rand.New(rand.NewSource(1))
	for layers := range api.MaxLayers + 1 {
		for count := range api.MaxEpochs + 1 {
			for range 3 {
				a := someAsked(r, layers, count, 1+r.Intn(api.MaxEpochs))
				a.must(t, fmt.Sprintf("%d layers, %d batches", layers, count))
			}
		}
	}
}

// TestD3SomeFalls: many falls of one training, far apart and behind one another.
func TestD3SomeFalls(t *testing.T) {
	r := rand.New(rand.NewSource(2))
	a := someAsked(r, 4, 20, 1)
	want, _, err := train.All(a.s, a.l, a.parts, a.r)
	if err != nil {
		t.Fatal(err)
	}
	for a.every = 1; a.every <= api.MaxEpochs; a.every++ {
		for gap := 1; gap <= 24; gap++ {
			a.falls = someFalls(r, r.Intn(maxFalls+1), gap)
			if got, want := a.run(), answer(want, slowTries(20, a.every, a.falls), nil); got != want {
				t.Errorf("every %d, falls %v: Run =\n%s\nwant\n%s", a.every, a.falls, got, want)
			}
		}
	}
}

// TestD3GoesOn: some batches, kept and loaded, and then more, whoever falls when
// in either, are all of them.
func TestD3GoesOn(t *testing.T) {
	r := rand.New(rand.NewSource(3))
	for range 40 {
		a := someAsked(r, 1+r.Intn(6), 1+r.Intn(12), 1+r.Intn(5))
		want, _, err := train.All(a.s, a.l, a.parts, a.r)
		if err != nil {
			t.Fatal(err)
		}
		for cut := range len(a.l) + 1 {
			half, _, err := Run(a.s, a.l[:cut], a.parts, a.r, a.every, a.falls)
			if err != nil {
				t.Fatal(err)
			}
			b, err := keep.Save(half)
			if err != nil {
				t.Fatal(err)
			}
			if half, err = keep.Load(b); err != nil {
				t.Fatal(err)
			}
			got, _, err := Run(half, a.l[cut:], a.parts, a.r, 1+r.Intn(20), someFalls(r, r.Intn(9), 4))
			if g, w := answer(got, 0, err), answer(want, 0, nil); g != w {
				t.Errorf("behind %d of %d batches:\n%s\nwant\n%s", cut, len(a.l), g, w)
			}
		}
	}
}

// TestD3AllRoads: who falls comes to the same net as stages that work at once,
// and as one hand.
func TestD3AllRoads(t *testing.T) {
	r := rand.New(rand.NewSource(4))
	for layers := 2; layers <= 8; layers++ {
		a := someAsked(r, layers, 6, 1+r.Intn(6))
		a.falls = fallsOf(1, 3, 4, 8)
		p, err := plan.Turns(2, a.parts)
		if err != nil {
			t.Fatal(err)
		}
		got, _, err := Run(a.s, a.l, a.parts, a.r, a.every, a.falls)
		stages, _, wrong := crew.All(a.s, a.l, []int{1, layers}, p, a.parts, a.r)
		if g, w := answer(got, 0, err), answer(stages, 0, wrong); g != w {
			t.Errorf("%d layers: Run =\n%s\ncrew's All =\n%s", layers, g, w)
		}
		hand, _, wrong := team.All(a.s, a.l, 1, a.parts, a.r)
		if g, w := answer(got, 0, err), answer(hand, 0, wrong); g != w {
			t.Errorf("%d layers: Run =\n%s\nteam's All =\n%s", layers, g, w)
		}
	}
}

// TestD3MoreFallsNotFewerTries: one fall more at the end never takes a try away.
func TestD3MoreFallsNotFewerTries(t *testing.T) {
	r := rand.New(rand.NewSource(5))
	for range 200 {
		a := line(r.Intn(21), 1+r.Intn(20), someFalls(r, 20, 1+r.Intn(10))...)
		whole, before := a.falls, 0
		for count := range len(whole) + 1 {
			_, tries, err := Run(a.s, a.l, a.parts, a.r, a.every, slices.Clone(whole[:count]))
			if err != nil || tries < before || count == 0 && tries != len(a.l) {
				t.Errorf("%d batches, every %d, falls %v: %d tries, %v; ahead of the last one %d", len(a.l), a.every, whole[:count], tries, err, before)
			}
			before = tries
		}
	}
}
