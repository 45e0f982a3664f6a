package crew

import (
	"math/rand"
	"runtime"
	"sync"
	"testing"
	"time"

	"galley/api"
)

// rest lets others go on for a while.
func rest() {
	for range 100 {
		runtime.Gosched()
	}
	time.Sleep(time.Millisecond)
}

// many are calls that are right, of all sorts of plans.
func many(r *rand.Rand) []asked {
	var l []asked
	for _, p := range planners(r) {
		for _, stages := range []int{2, 3, api.MaxStages} {
			l = append(l, someAsked(r, api.MaxLayers, stages, api.MaxMicros, p.plan), someAsked(r, stages, stages, 3, p.plan))
		}
	}
	return l
}

// TestR3ManyTimes: the same call tells the same, however many may work at once.
func TestR3ManyTimes(t *testing.T) {
	defer runtime.GOMAXPROCS(runtime.GOMAXPROCS(0))
	for _, a := range many(rand.New(rand.NewSource(10))) {
		want, wantAll := a.oneByOne(), a.allByOne(a.b, a.b)
		for _, hands := range []int{1, 2, 3, 8} {
			runtime.GOMAXPROCS(hands)
			for range 10 {
				if got := a.one(); got != want {
					t.Fatalf("One(%v) =\n%s\nwant\n%s", a, got, want)
				}
				if got := a.all(a.b, a.b); got != wantAll {
					t.Fatalf("All(%v) =\n%s\nwant\n%s", a, got, wantAll)
				}
			}
		}
	}
}

// TestR3AtOnce: calls that are made at once, with the same lists, do not mind one another.
func TestR3AtOnce(t *testing.T) {
	for _, a := range many(rand.New(rand.NewSource(11))) {
		want, wantAll := a.oneByOne(), a.allByOne(a.b, a.b)
		var calls sync.WaitGroup
		for range 8 {
			calls.Go(func() {
				if got := a.one(); got != want {
					t.Errorf("One(%v) =\n%s\nwant\n%s", a, got, want)
				}
				if got := a.all(a.b, a.b); got != wantAll {
					t.Errorf("All(%v) =\n%s\nwant\n%s", a, got, wantAll)
				}
			})
		}
		inTime(t, "calls at once", calls.Wait)
	}
}

// mustEnd holds that there are soon no more goroutines than there were: who has
// told that he is done needs a moment to be gone.
func mustEnd(t *testing.T, name string, before int) {
	t.Helper()
	for range 1000 {
		if runtime.NumGoroutine() <= before {
			return
		}
		rest()
	}
	t.Errorf("%s: there are %d goroutines, and there were %d", name, runtime.NumGoroutine(), before)
}

// TestR3NobodyIsLeft: behind a call all that was handed in is written over, and
// what was told stays; the race detector, where there is one, tells of whoever
// still reads. And no goroutine is left.
func TestR3NobodyIsLeft(t *testing.T) {
	for _, a := range many(rand.New(rand.NewSource(12))) {
		want, wantAll := a.oneByOne(), a.allByOne(a.b, a.b)
		before := runtime.NumGoroutine()
		for range 10 {
			var m memory
			laid := m.layAsked(a)
			s, off, err := One(laid.s, laid.b, laid.ends, laid.plan, laid.parts, laid.r)
			m.spoil()
			laid = m.layAsked(a)
			l := m.layBatches([]api.Batch{a.b, a.b})
			all, offs, wrong := All(laid.s, l, laid.ends, laid.plan, laid.parts, laid.r)
			m.spoil()
			rest()
			if got := answer(s, off, err); got != want {
				t.Fatalf("One(%v) =\n%s\nwant\n%s", a, got, want)
			}
			if got := answer(all, offs, wrong); got != wantAll {
				t.Fatalf("All(%v) =\n%s\nwant\n%s", a, got, wantAll)
			}
		}
		mustEnd(t, "One and All", before)
	}
}

// TestR3NobodyIsLeftBehindAnError: nor where something is refused, be it behind
// batches that were learned.
func TestR3NobodyIsLeftBehindAnError(t *testing.T) {
	before := runtime.NumGoroutine()
	for _, f := range everyFault() {
		a := small()
		f.spoil(&a)
		a.refuse(t, f.name, f.told)
	}
	a := small()
	a.refuseAll(t, "behind two", api.ErrShape, a.b, a.b, api.Batch{})
	mustEnd(t, "what was refused", before)
}
