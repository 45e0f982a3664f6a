package mail

import (
	"fmt"
	"math"
	"slices"
	"testing"

	"galley/api"
)

// memory has cells behind which something stands, and tells whether any of it
// was written into.
type memory struct {
	whole [][]int
	was   string
}

func (m *memory) stays(t *testing.T, name string) {
	t.Helper()
	if now := fmt.Sprint(m.whole); now != m.was {
		t.Errorf("%s: what was handed in was %s and is %s", name, m.was, now)
	}
}

// lay copies a message, and lays something behind its cells.
func (m *memory) lay(one api.Message) api.Message {
	whole := append(slices.Clone(one.Body.Cells), 91, math.MaxInt, math.MinInt)
	m.whole = append(m.whole, whole)
	m.was = fmt.Sprint(m.whole)
	one.Body.Cells = whole[:len(one.Body.Cells)]
	return one
}

// overwrite writes into all the memory of some cells, also behind their length.
func overwrite(cells []int, x int) {
	whole := cells[:cap(cells)]
	for i := range whole {
		whole[i] = x
	}
}

// TestX1CopyBehindPut: what becomes of the cells behind Put turns nothing of
// what is in the box, nor of what comes out of it.
func TestX1CopyBehindPut(t *testing.T) {
	for _, m := range append(right(), odd()...) {
		var mem memory
		b := box(t, 1)
		laid := mem.lay(m)
		mustPut(t, b, laid)
		overwrite(laid.Body.Cells, 77)
		laid.Kind, laid.Micro, laid.Body.Rows, laid.Body.Cols = 5, 5, 5, 5
		got, err := b.Take()
		if err != nil || !sameMessage(got, m) {
			t.Errorf("Take() = %v, %v, want %v", got, err, m)
		}
		overwrite(laid.Body.Cells, 78)
		if !sameMessage(got, m) {
			t.Errorf("what was taken became %v, want %v", got, m)
		}
	}
}

// TestX1CopyBehindTake: what becomes of the cells that were taken turns neither
// what is still in the box nor what was put in, behind the lengths neither.
func TestX1CopyBehindTake(t *testing.T) {
	for _, m := range append(right(), odd()...) {
		var mem memory
		b := box(t, 4)
		laid := mem.lay(m)
		for range 4 {
			mustPut(t, b, laid)
		}
		for i := range 4 {
			got, err := b.Take()
			if err != nil || !sameMessage(got, m) {
				t.Errorf("Take() = %v, %v, want %v", got, err, m)
			}
			overwrite(append(got.Body.Cells, 1), 70+i)
			overwrite(got.Body.Cells, 80+i)
		}
		mem.stays(t, fmt.Sprint(m))
	}
}

// TestX1OneMessageManyTimes: the same cells, changed ahead of each Put, come
// out as they were each time.
func TestX1OneMessageManyTimes(t *testing.T) {
	b := box(t, api.MaxBox)
	m := message(1, 0, 1, 2, 0, 0)
	for x := range api.MaxBox {
		m.Body.Cells[0], m.Body.Cells[1] = x, -x
		mustPut(t, b, m)
	}
	for x := range api.MaxBox {
		mustTake(t, b, message(1, 0, 1, 2, x, -x))
	}
}

// TestRuleP2ListsStay: nothing that is handed in is written into, whatever is
// told, and nothing that stands behind it is read.
func TestRuleP2ListsStay(t *testing.T) {
	for _, m := range append(right(), odd()...) {
		var mem memory
		b := box(t, 1)
		mustPut(t, b, mem.lay(m))
		refusePut(t, b, mem.lay(m), api.ErrFull)
		b.Close()
		refusePut(t, b, mem.lay(m), api.ErrOrder)
		mustTake(t, b, m)
		refuseTake(t, b, api.ErrOrder)
		mem.stays(t, fmt.Sprint(m))
	}
}

// TestRuleP2AnswersAreApart: no two messages that come out share memory, also
// behind their lengths, where the same one was put in, or one that came out.
func TestRuleP2AnswersAreApart(t *testing.T) {
	for _, m := range append(right(), odd()...) {
		b := box(t, 2)
		mustPut(t, b, m)
		mustPut(t, b, m)
		var taken [][]int
		for range 4 {
			got, err := b.Take()
			if err != nil || !sameMessage(got, m) {
				t.Fatalf("Take() = %v, %v, want %v", got, err, m)
			}
			taken = append(taken, got.Body.Cells)
			mustPut(t, b, got)
		}
		for i, cells := range taken {
			overwrite(cells, 50+i)
		}
		for i, cells := range taken {
			for _, x := range cells[:cap(cells)] {
				if x != 50+i {
					t.Fatalf("%v: what came out as number %d and %d shares memory", m, i, x-50)
				}
			}
		}
		mustTake(t, b, m)
		mustTake(t, b, m)
	}
}

// TestRuleP4NoCells: an empty list, none at all, and an empty beginning of one
// that has something behind it are the same.
func TestRuleP4NoCells(t *testing.T) {
	behind := []int{5, 6, 7}
	for _, size := range [][2]int{{0, 0}, {0, 12}, {24, 0}, {1, 1}, {-1, 99}} {
		b := box(t, 3)
		for _, cells := range [][]int{nil, {}, behind[:0]} {
			mustPut(t, b, message(2, 1, size[0], size[1], cells...))
		}
		for range 3 {
			got, err := b.Take()
			if err != nil || !sameMessage(got, message(2, 1, size[0], size[1])) {
				t.Errorf("of no cells Take() = %v, %v", got, err)
			}
			overwrite(append(got.Body.Cells, 1), 9)
		}
		if !slices.Equal(behind, []int{5, 6, 7}) {
			t.Errorf("what stood behind became %v", behind)
		}
	}
}
