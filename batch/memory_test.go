package batch

import (
	"fmt"
	"math"
	"math/rand"
	"slices"
	"testing"

	"galley/api"
	"galley/plain"
)

// memory lays out what is handed in so that something stands behind each list,
// and tells whether any of it was written into.
type memory struct {
	cells   [][]int
	batches [][]api.Batch
	before  string
}

func (m *memory) lay(a api.Matrix) api.Matrix {
	// What stands behind is no number: whoever read it would be off.
	list := append(slices.Clone(a.Cells), math.MaxInt, 91, math.MinInt, 92)
	m.cells = append(m.cells, list)
	a.Cells = list[:len(a.Cells)]
	return a
}

func (m *memory) layBatch(b api.Batch) api.Batch {
	laid := both(m.lay(b.In), m.lay(b.Want))
	m.before = m.text()
	return laid
}

func (m *memory) layBatches(l []api.Batch) []api.Batch {
	var list []api.Batch
	for _, b := range l {
		list = append(list, both(m.lay(b.In), m.lay(b.Want)))
	}
	list = append(list, tall(3), both(of(-1, 0), of(1, 1)))
	m.batches = append(m.batches, list)
	m.before = m.text()
	return list[:len(l)]
}

func (m *memory) text() string { return fmt.Sprint(m.cells, m.batches) }

func (m *memory) stays(t *testing.T, name string) {
	t.Helper()
	if now := m.text(); now != m.before {
		t.Errorf("%s: what was handed in was\n%s\nand is\n%s", name, m.before, now)
	}
}

func cellsOf(l ...api.Batch) [][]int {
	var lists [][]int
	for _, b := range l {
		lists = append(lists, b.In.Cells, b.Want.Cells)
	}
	return lists
}

// mustBeApart writes into all the memory of each list, also behind its length,
// and holds that each still has what was written into it.
func mustBeApart(t *testing.T, name string, lists [][]int) {
	t.Helper()
	for i, l := range lists {
		for j := range l[:cap(l)] {
			l[:cap(l)][j] = i
		}
	}
	for i, l := range lists {
		for _, x := range l[:cap(l)] {
			if x != i {
				t.Errorf("%s: the lists %d and %d share memory", name, i, x)
				break
			}
		}
	}
}

// TestRuleP2SplitStays: what is handed in stays as it is, what stands behind
// it is not read, and what comes out shares memory with nothing, not even with
// what comes out of the same call once more; also of one part, which is the
// batch as it came in.
func TestRuleP2SplitStays(t *testing.T) {
	r := rand.New(rand.NewSource(4))
	for _, rows := range []int{1, 2, 5, 12, 24} {
		for parts := 1; parts <= min(rows, api.MaxMicros); parts++ {
			name := fmt.Sprintf("%d rows, %d parts", rows, parts)
			b := someBatch(r, rows)
			var m memory
			laid := m.layBatch(b)
			lists := slices.Clone(m.cells)
			for range 2 {
				l, err := Split(laid, parts)
				if !sameBatches(l, splitSlowly(b, parts)) || err != nil {
					t.Errorf("%s: Split(%v) = %v, %v", name, b, l, err)
				}
				lists = slices.Concat(lists, cellsOf(l...))
				clear(l[:cap(l)])
			}
			m.stays(t, name)
			mustBeApart(t, name, lists)
		}
	}
}

func TestRuleP2JoinStays(t *testing.T) {
	r := rand.New(rand.NewSource(5))
	for _, rows := range []int{1, 2, 5, 12, 24} {
		for parts := 1; parts <= min(rows, api.MaxMicros); parts++ {
			name := fmt.Sprintf("%d rows, %d parts", rows, parts)
			b := someBatch(r, rows)
			var m memory
			laid := m.layBatches(splitSlowly(b, parts))
			lists := slices.Clone(m.cells)
			for range 2 {
				got, err := Join(laid)
				if !sameBatch(got, b) || err != nil {
					t.Errorf("%s: Join = %v, %v; want %v", name, got, err, b)
				}
				lists = slices.Concat(lists, cellsOf(got))
			}
			m.stays(t, name)
			mustBeApart(t, name, lists)
		}
	}
}

func TestRuleP2SizesAreFresh(t *testing.T) {
	for rows := 1; rows <= api.MaxRows; rows++ {
		for parts := 1; parts <= min(rows, api.MaxMicros); parts++ {
			var lists [][]int
			for range 2 {
				sizes, err := Sizes(rows, parts)
				if !slices.Equal(sizes, dealt(rows, parts)) || err != nil {
					t.Errorf("Sizes(%d, %d) = %v, %v", rows, parts, sizes, err)
				}
				lists = append(lists, sizes)
			}
			mustBeApart(t, "sizes", lists)
			mustSizes(t, rows, parts, dealt(rows, parts), api.OK)
		}
	}
}

// TestRuleP2TheSameListTwice: one list may be handed in as all of them.
func TestRuleP2TheSameListTwice(t *testing.T) {
	var m memory
	x := m.lay(of(3, 1, 7, 8, 9))
	m.before = m.text()
	b := both(x, x)
	l, err := Split(b, 2)
	front, behind := of(2, 1, 7, 8), of(1, 1, 9)
	if !sameBatches(l, batches(both(front, front), both(behind, behind))) || err != nil {
		t.Errorf("Split = %v, %v", l, err)
	}
	j, err := Join(batches(b, b))
	if six := of(6, 1, 7, 8, 9, 7, 8, 9); !sameBatch(j, both(six, six)) || err != nil {
		t.Errorf("Join = %v, %v", j, err)
	}
	mustBeApart(t, "all the same", cellsOf(append(l, j)...))
	m.stays(t, "all the same")
}

// TestRuleP2RefusedListsStay: nor is anything written where a call refuses.
func TestRuleP2RefusedListsStay(t *testing.T) {
	for _, w := range wrong() {
		for _, b := range batches(both(w.a, of(1, 1, 5)), both(of(1, 1, 5), w.a), tall(2)) {
			var m memory
			laid := m.layBatch(b)
			if l, err := Split(laid, 3); len(l) != 0 || err == nil {
				t.Errorf("%s: Split = %v, %v", w.name, l, err)
			}
			mustCheck(t, w.name, laid, plain.Told(Check(b)))
			m.stays(t, w.name)
			var n memory
			refuseJoin(t, w.name, n.layBatches(batches(tall(2), b, both(w.a, w.a))), ofJoin(tall(2), b, both(w.a, w.a)))
			n.stays(t, w.name)
		}
	}
	for _, l := range [][]api.Batch{nil, {tall(24), tall(1)}, {tall(1), both(of(1, 1, 3), of(1, 1, 3))}} {
		var m memory
		refuseJoin(t, "refused", m.layBatches(l), ofJoin(l...))
		m.stays(t, "refused")
	}
}
