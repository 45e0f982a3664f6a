package rings

import (
	"fmt"
	"math/rand"
	"slices"
	"testing"
	"time"

	"galley/api"
	"galley/fix"
	"galley/plain"
)

const (
	top = api.Top
	// most is written out: the tests would not see it, were the program's own number another.
	most = 60
)

// answer is what a call told, as text: an empty list and none are the same.
func answer(told any, err error) string { return fmt.Sprint(told, " ", plain.Told(err)) }

func sumText(parts [][]int) string {
	l, err := Sum(parts)
	return answer(l, err)
}

func treeText(parts [][]int) string {
	l, err := Tree(parts)
	return answer(l, err)
}

// alike gives so many workers, each of which has one number so many times.
func alike(count int, numbers ...int) [][]int {
	var parts [][]int
	for _, x := range numbers {
		parts = append(parts, slices.Repeat([]int{x}, count))
	}
	return parts
}

// some gives workers with numbers up to a bound, or such as are at the ends.
func some(r *rand.Rand, crew, count, bound int) [][]int {
	parts := alike(count, make([]int, crew)...)
	for _, own := range parts {
		for i := range own {
			own[i] = r.Intn(2*bound+1) - bound
			if bound == top && r.Intn(2) == 0 {
				own[i] = []int{-top, top, 1, -1}[r.Intn(4)]
			}
		}
	}
	return parts
}

// everyChoice has all lists of so many numbers that are some of those given.
func everyChoice(crew int, of ...int) [][]int {
	all := [][]int{nil}
	for range crew {
		var longer [][]int
		for _, l := range all {
			for _, x := range of {
				longer = append(longer, append(slices.Clone(l), x))
			}
		}
		all = longer
	}
	return all
}

// pieceSizes deals the numbers out one by one, round.
func pieceSizes(count, crew int) []int {
	sizes := make([]int, crew)
	for i := range count {
		sizes[i%crew]++
	}
	return sizes
}

// pieces tells of each number in which piece it is.
func pieces(count, crew int) []int {
	var l []int
	for piece, size := range pieceSizes(count, crew) {
		l = append(l, slices.Repeat([]int{piece}, size)...)
	}
	return l
}

// roundFrom sums up the numbers at one place, from one worker on.
func roundFrom(parts [][]int, place, first int) int {
	sum := parts[first%len(parts)][place]
	for i := 1; i < len(parts); i++ {
		sum = fix.Add(sum, parts[(first+i)%len(parts)][place])
	}
	return sum
}

// wantSum is what the chapter says of Sum.
func wantSum(parts [][]int) string {
	sums := []int{}
	for place, piece := range pieces(len(parts[0]), len(parts)) {
		sums = append(sums, roundFrom(parts, place, piece+1))
	}
	return answer(slices.Repeat([][]int{sums}, len(parts)), nil)
}

func add(a, b []int) []int {
	sums := []int{}
	for i := range a {
		sums = append(sums, fix.Add(a[i], b[i]))
	}
	return sums
}

// wantTree is what the chapter says of Tree, written out for each count of workers.
func wantTree(p [][]int) string {
	var sums []int
	switch len(p) {
	case 1:
		sums = p[0]
	case 2:
		sums = add(p[0], p[1])
	case 3:
		sums = add(add(p[0], p[1]), p[2])
	case 4:
		sums = add(add(p[0], p[1]), add(p[2], p[3]))
	case 5:
		sums = add(add(add(p[0], p[1]), p[2]), add(p[3], p[4]))
	case 6:
		sums = add(add(add(p[0], p[1]), p[2]), add(add(p[3], p[4]), p[5]))
	}
	return answer(sums, nil)
}

// must holds that Sum and Tree tell what the chapter says.
func must(t *testing.T, parts [][]int) {
	t.Helper()
	if got, want := sumText(parts), wantSum(parts); got != want {
		t.Fatalf("Sum(%v) = %s, want %s", parts, got, want)
	}
	if got, want := treeText(parts), wantTree(parts); got != want {
		t.Fatalf("Tree(%v) = %s, want %s", parts, got, want)
	}
}

// refuse holds that both tell it, and nothing beside it.
func refuse(t *testing.T, name string, parts [][]int, told api.Errno) {
	t.Helper()
	if l, err := Sum(parts); plain.Told(err) != told || len(l) != 0 {
		t.Errorf("%s: Sum = %v, %v, want nothing and %v", name, l, err, told)
	}
	if l, err := Tree(parts); plain.Told(err) != told || len(l) != 0 {
		t.Errorf("%s: Tree = %v, %v, want nothing and %v", name, l, err, told)
	}
}

// inTime stops the test where workers wait for ever.
func inTime(t *testing.T, name string, do func()) {
	t.Helper()
	done := make(chan struct{})
	go func() {
		defer close(done)
		do()
	}()
	select {
	case <-done:
	case <-time.After(time.Minute):
		t.Fatalf("%s waits", name)
	}
}
