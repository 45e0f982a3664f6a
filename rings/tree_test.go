package rings

import (
	"math/rand"
	"slices"
	"testing"

	"galley/api"
	"galley/fix"
)

func TestG3ByHand(t *testing.T) {
	for _, c := range []struct {
		parts [][]int
		sums  []int
	}{
		{[][]int{{1}, {2}, {3}}, []int{6}},
		{[][]int{{}}, []int{}},
		{[][]int{nil, nil, nil, nil, nil, nil}, nil},
		{[][]int{{5, -top, top}}, []int{5, -top, top}},
		{[][]int{{top, -top, top}, {1, -1, -top}}, []int{top, -top, 0}},
		{[][]int{{top, top, -top}, {top, -top, top}, {-top, top, top}}, []int{0, top, top}},
		// One behind the other would tell -1 of the first.
		{[][]int{{top, top}, {1, -top}, {-1, top}, {-top, 1}}, []int{0, top}},
		{[][]int{{top}, {top}, {-top}, {-top}}, []int{0}},
		{[][]int{{top}, {top}, {top}, {-top}, {-top}}, []int{0}},
		{[][]int{{top}, {-top}, {top}, {top}, {-top}}, []int{top}},
		{[][]int{{-top}, {-top}, {top}, {top}, {-top}, {-top}}, []int{-top}},
		{[][]int{{top}, {top}, {-top}, {-top}, {-top}, {top}}, []int{0}},
	} {
		if got, want := treeText(c.parts), answer(c.sums, nil); got != want {
			t.Errorf("Tree(%v) = %s, want %s", c.parts, got, want)
		}
	}
}

// TestG3EveryChoice: of each count of workers all choices of numbers at the ends
// and near 0, at once with each other at other places.
func TestG3EveryChoice(t *testing.T) {
	for crew := 1; crew <= api.MaxCrew; crew++ {
		choices := everyChoice(crew, -top, -1, top)
		for i, choice := range choices {
			parts := alike(2, choice...)
			for worker, x := range choices[len(choices)-1-i] {
				parts[worker][1] = x
			}
			must(t, parts)
		}
	}
}

// sumBy sums up by a halving that tells of so many workers how many the first half has.
func sumBy(numbers []int, first func(int) int) int {
	if len(numbers) == 1 {
		return numbers[0]
	}
	half := first(len(numbers))
	return fix.Add(sumBy(numbers[:half], first), sumBy(numbers[half:], first))
}

// TestG3OtherHalvings: the choices tell the chapter's halving from others,
// for each count of workers for which these are others.
func TestG3OtherHalvings(t *testing.T) {
	right := func(n int) int { return n - n/2 }
	for _, c := range []struct {
		name  string
		first func(int) int
		same  []int
	}{
		{"the lesser half first", func(n int) int { return n / 2 }, []int{1, 2, 4}},
		{"one behind the other", func(n int) int { return n - 1 }, []int{1, 2, 3}},
		{"from the last one on", func(int) int { return 1 }, []int{1, 2}},
		{"by twos", func(n int) int { return min(n-1, 2) }, []int{1, 2, 3, 4}},
	} {
		for crew := 1; crew <= api.MaxCrew; crew++ {
			differ := 0
			for _, choice := range everyChoice(crew, -top, -1, top) {
				want := sumBy(choice, right)
				if l, err := Tree(alike(1, choice...)); err != nil || l[0] != want {
					t.Errorf("Tree of %v = %v, %v, want %d", choice, l, err, want)
				}
				if sumBy(choice, c.first) != want {
					differ++
				}
			}
			if (differ == 0) != slices.Contains(c.same, crew) {
				t.Errorf("%s, %d workers: %d choices tell it apart", c.name, crew, differ)
			}
		}
	}
}

func TestG3EveryCount(t *testing.T) {
	r := rand.New(rand.NewSource(2))
	for crew := 1; crew <= api.MaxCrew; crew++ {
		for count := 0; count <= most; count++ {
			for _, bound := range []int{3, 1 << 20, top, top} {
				must(t, some(r, crew, count, bound))
			}
		}
	}
}
