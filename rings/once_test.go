package rings

import (
	"fmt"
	"math/rand"
	"runtime"
	"slices"
	"sync"
	"testing"
	"time"

	"galley/api"
)

// rest lets others go on for a while.
func rest() {
	for range 100 {
		runtime.Gosched()
	}
	time.Sleep(time.Millisecond)
}

// many are calls that are right, some of which have sums that come to an end.
func many(r *rand.Rand) [][][]int {
	var l [][][]int
	for crew := 1; crew <= api.MaxCrew; crew++ {
		for _, count := range []int{0, crew - 1, crew, 13, most} {
			l = append(l, some(r, crew, count, 1000), some(r, crew, count, top))
		}
	}
	return l
}

// behindOneAnother is what comes of all numbers, from worker to worker.
func behindOneAnother(parts [][]int) []int {
	sums := slices.Clone(parts[0])
	for _, own := range parts[1:] {
		for i, x := range own {
			sums[i] += x
		}
	}
	return sums
}

// TestG4AllWaysAreTheSame: where no sum comes to an end, also where it all but does.
func TestG4AllWaysAreTheSame(t *testing.T) {
	r := rand.New(rand.NewSource(5))
	for crew := 1; crew <= api.MaxCrew; crew++ {
		for count := 0; count <= most; count++ {
			calls := [][][]int{some(r, crew, count, 3), some(r, crew, count, 1<<20), some(r, crew, count, top/crew)}
			calls = append(calls, alike(count, slices.Repeat([]int{top / crew}, crew)...), alike(count, slices.Repeat([]int{-top / crew}, crew)...))
			for _, parts := range calls {
				want := behindOneAnother(parts)
				if got, all := sumText(parts), answer(slices.Repeat([][]int{want}, crew), nil); got != all {
					t.Fatalf("Sum(%v) = %s, want %s", parts, got, all)
				}
				if got, one := treeText(parts), answer(want, nil); got != one {
					t.Fatalf("Tree(%v) = %s, want %s", parts, got, one)
				}
			}
		}
	}
}

// TestG4AllWorkersHaveTheSame: also where sums come to an end.
func TestG4AllWorkersHaveTheSame(t *testing.T) {
	r := rand.New(rand.NewSource(6))
	for range 500 {
		parts := some(r, 1+r.Intn(api.MaxCrew), r.Intn(most+1), top)
		l, err := Sum(parts)
		if err != nil || len(l) != len(parts) {
			t.Fatalf("Sum(%v) = %v, %v", parts, l, err)
		}
		for worker, sums := range l {
			if fmt.Sprint(sums) != fmt.Sprint(l[0]) {
				t.Fatalf("Sum(%v): worker %d has %v, worker 0 %v", parts, worker, sums, l[0])
			}
		}
	}
}

// TestG4ManyTimes: the same call tells the same, however many may work at once.
func TestG4ManyTimes(t *testing.T) {
	defer runtime.GOMAXPROCS(runtime.GOMAXPROCS(0))
	for _, parts := range many(rand.New(rand.NewSource(7))) {
		for _, hands := range []int{1, 2, 3, 8} {
			runtime.GOMAXPROCS(hands)
			inTime(t, fmt.Sprint(parts), func() {
				for range 30 {
					if got, want := sumText(parts), wantSum(parts); got != want {
						t.Errorf("Sum(%v) = %s, want %s", parts, got, want)
					}
				}
			})
		}
		for range 10 {
			must(t, parts)
		}
	}
}

// TestG4HoweverWorkersTakeTurns: each worker in turn begins late, or waits ahead
// of each list that it takes; it comes out the same.
func TestG4HoweverWorkersTakeTurns(t *testing.T) {
	r := rand.New(rand.NewSource(8))
	for crew := 2; crew <= api.MaxCrew; crew++ {
		for late := range crew {
			parts := some(r, crew, 13, top)
			workers := manned(parts)
			slow := workers[late]
			slowed := make(chan []int)
			from := slow.from
			slow.from = slowed
			go func() {
				for range 2 * (crew - 1) {
					l := <-from
					rest()
					slowed <- l
				}
			}()
			var working sync.WaitGroup
			for _, w := range workers {
				working.Go(func() {
					if w == slow {
						rest()
					}
					w.work()
				})
			}
			inTime(t, "a ring with a late worker", working.Wait)
			var sums [][]int
			for _, w := range workers {
				sums = append(sums, w.sums)
			}
			if got, want := answer(sums, nil), wantSum(parts); got != want {
				t.Errorf("worker %d of %d is late: %s, want %s", late, crew, got, want)
			}
		}
	}
}

// TestG4AtOnce: calls that are made at once, with the same lists, do not mind one another.
func TestG4AtOnce(t *testing.T) {
	for _, parts := range many(rand.New(rand.NewSource(9))) {
		sum, tree := wantSum(parts), wantTree(parts)
		var calls sync.WaitGroup
		for range 8 {
			calls.Go(func() {
				if got := sumText(parts); got != sum {
					t.Errorf("Sum(%v) = %s, want %s", parts, got, sum)
				}
				if got := treeText(parts); got != tree {
					t.Errorf("Tree(%v) = %s, want %s", parts, got, tree)
				}
			})
		}
		inTime(t, "calls at once", calls.Wait)
	}
}

// mustEnd holds that there are soon no more goroutines than there were: who has
// told that he is done needs a moment to be gone.
func mustEnd(t *testing.T, name string, before int) {
	t.Helper()
	for range 1000 {
		if runtime.NumGoroutine() <= before {
			return
		}
		rest()
	}
	t.Errorf("%s: there are %d goroutines, and there were %d", name, runtime.NumGoroutine(), before)
}

// TestG4NobodyIsLeft: behind a call all that was handed in is written over, and
// what was told stays, and may be written over, too; the race detector, where
// there is one, tells of whoever still reads or writes. And no goroutine is left.
func TestG4NobodyIsLeft(t *testing.T) {
	for _, parts := range many(rand.New(rand.NewSource(10))) {
		want := wantSum(parts)
		before := runtime.NumGoroutine()
		for range 5 {
			var m memory
			l, err := Sum(m.lay(parts))
			m.spoil()
			got := answer(l, err)
			rest()
			if later := answer(l, err); got != want || later != want {
				t.Fatalf("Sum(%v) = %s, later %s, want %s", parts, got, later, want)
			}
			mustBeApart(t, "what was told", l)
		}
		mustEnd(t, "Sum", before)
	}
}

// TestG4NobodyIsLeftBehindAnError: nor where something is refused.
func TestG4NobodyIsLeftBehindAnError(t *testing.T) {
	before := runtime.NumGoroutine()
	for range 20 {
		refuse(t, "the last worker's last number", [][]int{{1, 2}, {3, 4}, {5, top + 1}}, api.ErrRange)
		refuse(t, "the last worker's count", [][]int{{1, 2}, {3, 4}, {5}}, api.ErrShape)
	}
	mustEnd(t, "what was refused", before)
}
