package rings

import (
	"fmt"
	"math"
	"math/rand"
	"slices"
	"testing"

	"galley/api"
)

// memory lays out what is handed in so that something stands behind each list,
// and tells whether any of it was written into.
type memory struct {
	numbers [][]int
	lists   [][][]int
	before  string
}

func (m *memory) lay(parts [][]int) [][]int {
	var list [][]int
	for _, own := range parts {
		// What stands behind is no number: whoever read it would be off.
		laid := append(slices.Clone(own), math.MaxInt, 91, math.MinInt, 92)
		m.numbers = append(m.numbers, laid)
		list = append(list, laid[:len(own)])
	}
	list = append(list, nil, []int{math.MaxInt})
	m.lists = append(m.lists, list)
	m.before = m.text()
	return list[:len(parts)]
}

func (m *memory) text() string { return fmt.Sprint(m.numbers, m.lists) }

func (m *memory) stays(t *testing.T, name string) {
	t.Helper()
	if now := m.text(); now != m.before {
		t.Errorf("%s: what was handed in was\n%s\nand is\n%s", name, m.before, now)
	}
}

// spoil writes over all that was handed in, and over what stands behind it.
func (m *memory) spoil() {
	for _, l := range m.numbers {
		for i := range l {
			l[i] = 77
		}
	}
	for _, l := range m.lists {
		clear(l)
	}
}

// mustBeApart writes into all the memory of each list, also behind its length,
// and holds that each still has what was written into it.
func mustBeApart(t *testing.T, name string, lists [][]int) {
	t.Helper()
	for i, l := range lists {
		for j := range l[:cap(l)] {
			l[:cap(l)][j] = i
		}
	}
	for i, l := range lists {
		for _, x := range l[:cap(l)] {
			if x != i {
				t.Errorf("%s: the lists %d and %d share memory", name, i, x)
				break
			}
		}
	}
}

// takeApart gives the lists of a list, and clears what they stood in.
func takeApart(l [][]int) [][]int {
	lists := slices.Clone(l)
	clear(l[:cap(l)])
	return lists
}

// TestG2EachListIsItsOwn: what is written into one worker's list is not to be
// seen in another one's, nor in what was handed in.
func TestG2EachListIsItsOwn(t *testing.T) {
	r := rand.New(rand.NewSource(3))
	for crew := 1; crew <= api.MaxCrew; crew++ {
		for _, count := range []int{1, crew, 13, most} {
			parts := some(r, crew, count, 1000)
			before := fmt.Sprint(parts)
			l, err := Sum(parts)
			if err != nil || len(l) != crew {
				t.Fatalf("Sum(%v) = %v, %v", parts, l, err)
			}
			for worker := range l {
				others := slices.Delete(slices.Clone(l), worker, worker+1)
				was := fmt.Sprint(others)
				for i := range l[worker] {
					l[worker][i] = 5555
				}
				if now := fmt.Sprint(others); now != was || fmt.Sprint(parts) != before {
					t.Errorf("%d workers of %d: what is written into list %d is seen elsewhere", crew, count, worker)
				}
			}
		}
	}
}

// TestRuleP2ListsStay: what is handed in stays as it is, what stands behind it
// is not read, and what comes out shares memory with nothing, not even with what
// comes out of the same call once more.
func TestRuleP2ListsStay(t *testing.T) {
	r := rand.New(rand.NewSource(4))
	for crew := 1; crew <= api.MaxCrew; crew++ {
		for _, count := range []int{0, 1, crew - 1, crew, 13, most} {
			for _, bound := range []int{9, top} {
				name := fmt.Sprintf("%d workers of %d", crew, count)
				var m memory
				parts := m.lay(some(r, crew, count, bound))
				lists := slices.Clone(m.numbers)
				for range 2 {
					must(t, parts)
					sums, _ := Sum(parts)
					sum, _ := Tree(parts)
					lists = append(append(lists, takeApart(sums)...), sum)
				}
				m.stays(t, name)
				mustBeApart(t, name, lists)
			}
		}
	}
}

// TestRuleP2TheSameListTwice: one list may be handed in as all of them, or they
// may lie one over the other.
func TestRuleP2TheSameListTwice(t *testing.T) {
	for crew := 1; crew <= api.MaxCrew; crew++ {
		var m memory
		own := m.lay([][]int{{1, top, -top, 3, 4, 5, top / 2, -top / 3}})[0]
		must(t, slices.Repeat([][]int{own}, crew))
		var over [][]int
		for i := range crew {
			over = append(over, own[i:i+3])
		}
		must(t, over)
		m.stays(t, "the same list")
		sums, _ := Sum(slices.Repeat([][]int{own}, crew))
		sum, _ := Tree(slices.Repeat([][]int{own}, crew))
		mustBeApart(t, "the same list", append(takeApart(sums), sum, m.numbers[0]))
	}
}

// TestRuleP2RefusedListsStay: nor is anything written where a call refuses.
func TestRuleP2RefusedListsStay(t *testing.T) {
	for _, parts := range [][][]int{
		nil, alike(3, 1, 2, 3, 4, 5, 6, 7), {{1, 2}, {3}}, {{1}, {top + 1}}, {{1, 2}, {3, 4}, {5, -top - 1}},
		alike(most+1, 1, 2), {{top + 1}, {1, 2}},
	} {
		var m memory
		laid := m.lay(parts)
		refuse(t, fmt.Sprint(parts), laid, toldOf(parts))
		m.stays(t, fmt.Sprint(parts))
	}
}
