package wire

import (
	"fmt"
	"math"
	"slices"
	"testing"

	"galley/api"
)

// memory has lists behind each of which something stands, and tells whether any
// of it was written into.
type memory struct {
	look []func() string
	was  string
}

func (m *memory) text() string {
	var all string
	for _, look := range m.look {
		all += look() + "\n"
	}
	return all
}

func (m *memory) stays(t *testing.T, name string) {
	t.Helper()
	if now := m.text(); now != m.was {
		t.Errorf("%s: what was handed in was %s and is %s", name, m.was, now)
	}
}

// lay copies a list, and lays something behind it.
func lay[T any](m *memory, list []T, behind ...T) []T {
	whole := append(slices.Clone(list), behind...)
	m.look = append(m.look, func() string { return fmt.Sprint(whole) })
	m.was = m.text()
	return whole[:len(list)]
}

func layMessage(m *memory, one api.Message) api.Message {
	one.Body.Cells = lay(m, one.Body.Cells, 91, math.MaxInt, math.MinInt)
	return one
}

// TestRuleP2ListsStay: nothing that is handed in is written into, whatever is
// told, and nothing that stands behind it is read.
func TestRuleP2ListsStay(t *testing.T) {
	for _, one := range right() {
		var m memory
		b := slowEncode(one)
		mustEncode(t, layMessage(&m, one), b)
		mustDecode(t, lay(&m, b, 1, 2, 3), one, len(b))
		wrong := one
		wrong.Kind = 3
		refuseEncode(t, "a Kind", layMessage(&m, wrong), api.ErrRange)
		wrong = one
		wrong.Body.Cells = append(slices.Clone(one.Body.Cells), 1)
		refuseEncode(t, "a cell more", layMessage(&m, wrong), api.ErrShape)
		// What is missing stands behind the length.
		for _, long := range []int{0, 1, 3, 4, len(b) - 2, len(b) - 1} {
			refuseDecode(t, "shorter", lay(&m, b[:long], b[long:]...))
		}
		if count := len(one.Body.Cells); count > 0 {
			wrong.Body.Cells = lay(&m, one.Body.Cells[:count-1], one.Body.Cells[count-1:]...)
			refuseEncode(t, "a cell less", wrong, api.ErrShape)
		}
		turned := slices.Clone(b)
		turned[len(b)-1]++
		refuseDecode(t, "another sum", lay(&m, turned, b...))
		m.stays(t, fmt.Sprint(one))
	}
}

// TestRuleP2AnswersAreApart: what is told shares memory neither with what was
// handed in nor with what is told once more, nor behind the lists' lengths.
func TestRuleP2AnswersAreApart(t *testing.T) {
	for _, one := range right() {
		var m memory
		laid, b := layMessage(&m, one), lay(&m, slowEncode(one), 1, 2, 3)
		var written [][]byte
		var cells [][]int
		for range 2 {
			told, err := Encode(laid)
			back, _, other := Decode(b)
			if err != nil || other != nil {
				t.Fatalf("%v: %v, %v", one, err, other)
			}
			written, cells = append(written, told), append(cells, back.Body.Cells)
		}
		mustBeApart(t, fmt.Sprint(one), written)
		mustBeApart(t, fmt.Sprint(one), cells)
		m.stays(t, fmt.Sprint(one))
		mustBoth(t, laid, slowEncode(one))
	}
}

// mustBeApart writes into all the memory of each list, also behind its length,
// and holds that each still has what was written into it.
func mustBeApart[T byte | int](t *testing.T, name string, lists [][]T) {
	t.Helper()
	for i, list := range lists {
		for j := range list[:cap(list)] {
			list[:cap(list)][j] = T(i + 7)
		}
	}
	for i, list := range lists {
		for _, x := range list[:cap(list)] {
			if x != T(i+7) {
				t.Errorf("%s: the lists %d and %d share memory", name, i, x-7)
				break
			}
		}
	}
}

// TestRuleP2NothingIsKept: what is told hangs on nothing that was asked ahead,
// and not on what the lists of a call ahead have become.
func TestRuleP2NothingIsKept(t *testing.T) {
	cells := []int{-3, 100}
	for range 20 {
		m := message(1, 2, 1, 2, cells...)
		first := slowEncode(m)
		b, err := Encode(m)
		if err != nil || !slices.Equal(b, first) {
			t.Fatalf("Encode(%v) = %v, %v", m, b, err)
		}
		back, _, err := Decode(b)
		if err != nil || !sameMessage(back, m) {
			t.Fatalf("Decode(%v) = %v, %v", b, back, err)
		}
		m.Body.Cells[0]--
		if !slices.Equal(b, first) || back.Body.Cells[0] != m.Body.Cells[0]+1 {
			t.Errorf("an answer went on with the cells: %v, %v", b, back)
		}
		clear(b)
		if back.Body.Cells[1] != 100 {
			t.Errorf("an answer went on with the bytes: %v", back)
		}
		refuseDecode(t, "cleared bytes", b)
		refuseEncode(t, "a cell less", message(1, 2, 1, 2, 5), api.ErrShape)
		cells[0] -= 50
	}
}

// TestRuleP4EmptyIsNil: an empty list of cells is told of as none at all.
func TestRuleP4EmptyIsNil(t *testing.T) {
	for _, cells := range [][]int{nil, {}} {
		mustBoth(t, message(1, 0, 0, 0, cells...), bytesOf(1, 0, 0, 0, 1, 4))
		mustBoth(t, message(1, 0, 0, 12, cells...), bytesOf(1, 0, 0, 12, 13, 16))
		refuseEncode(t, "no cells", message(1, 0, 1, 1, cells...), api.ErrShape)
	}
}
