package again

import (
	"fmt"
	"math"
	"math/rand"
	"slices"
	"sync"
	"testing"

	"galley/api"
)

// memory lays out what is handed in so that something stands behind each list,
// and tells whether any of it was written into.
type memory struct {
	cells  [][]int
	layers [][]api.Layer
	before string
}

func (m *memory) lay(a api.Matrix) api.Matrix {
	// What stands behind is no number: whoever read it would be off.
	list := append(slices.Clone(a.Cells), math.MaxInt, 91, math.MinInt, 92)
	m.cells = append(m.cells, list)
	a.Cells = list[:len(a.Cells)]
	return a
}

func (m *memory) layNet(n []api.Layer) []api.Layer {
	var list []api.Layer
	for _, l := range n {
		list = append(list, api.Layer{Kind: l.Kind, W: m.lay(l.W), B: m.lay(l.B)})
	}
	list = append(list, slices.Repeat([]api.Layer{{Kind: 9}}, 20)...)
	m.layers = append(m.layers, list)
	return list[:len(n)]
}

func (m *memory) layAsked(a asked) asked {
	return asked{m.layNet(a.n), m.lay(a.x), m.lay(a.want), a.every}
}

func (m *memory) text() string { return fmt.Sprint(m.cells, m.layers) }

func (m *memory) remember() { m.before = m.text() }

func (m *memory) stays(t *testing.T, name string) {
	t.Helper()
	if now := m.text(); now != m.before {
		t.Errorf("%s: what was handed in was\n%s\nand is\n%s", name, m.before, now)
	}
}

// spoil writes over all that was handed in, and over what stands behind it.
func (m *memory) spoil() {
	for _, l := range m.cells {
		for i := range l {
			l[i] = 77
		}
	}
	for _, l := range m.layers {
		clear(l)
	}
}

// takeApart gives all lists of numbers of Grads, and clears what they stood in.
func takeApart(grads []api.Grad) [][]int {
	var lists [][]int
	for _, d := range grads {
		lists = append(lists, d.W.Cells, d.B.Cells)
	}
	clear(grads[:cap(grads)])
	return lists
}

// mustBeApart writes into all the memory of each list, also behind its length,
// and holds that each still has what was written into it.
func mustBeApart(t *testing.T, name string, lists [][]int) {
	t.Helper()
	for i, l := range lists {
		for j := range l[:cap(l)] {
			l[:cap(l)][j] = i
		}
	}
	for i, l := range lists {
		for _, x := range l[:cap(l)] {
			if x != i {
				t.Errorf("%s: the lists %d and %d share memory", name, i, x)
				break
			}
		}
	}
}

// TestRuleP2ListsStay: what is handed in stays as it is, what stands behind it
// is not read, and what comes out shares memory with nothing, not even with what
// comes out of the same call once more.
func TestRuleP2ListsStay(t *testing.T) {
	r := rand.New(rand.NewSource(9))
	for layers, every := range everySize {
		for _, rows := range []int{0, 1, 12} {
			name := fmt.Sprintf("%d layers, every %d, %d rows", layers, every, rows)
			a := someAsked(r, rows, 3, someWords(r, every, layers), every)
			want := a.slowly()
			var m memory
			laid := m.layAsked(a)
			m.remember()
			lists := slices.Clone(m.cells)
			for range 2 {
				grads, off, kept, err := Back(laid.n, laid.x, laid.want, laid.every)
				if got := answer(grads, off, kept, err); got != want {
					t.Errorf("%s: Back =\n%s\nwant\n%s", name, got, want)
				}
				lists = append(lists, takeApart(grads)...)
			}
			m.stays(t, name)
			mustBeApart(t, name, lists)
		}
	}
}

// TestRuleP2NothingIsKept: what was told stays, and is told again, when all that
// was handed in is written over.
func TestRuleP2NothingIsKept(t *testing.T) {
	r := rand.New(rand.NewSource(10))
	for layers, every := range everySize {
		a := someAsked(r, 2, 4, someWords(r, layers, layers), every)
		want := a.slowly()
		for range 2 {
			var m memory
			laid := m.layAsked(a)
			grads, off, kept, err := Back(laid.n, laid.x, laid.want, laid.every)
			m.spoil()
			if got := answer(grads, off, kept, err); got != want {
				t.Errorf("%d layers, every %d: Back =\n%s\nwant\n%s", layers, every, got, want)
			}
		}
	}
}

// TestRuleP2TheSameListTwice: one list may be handed in as all of them.
func TestRuleP2TheSameListTwice(t *testing.T) {
	for every := 1; every <= api.MaxLayers; every++ {
		var m memory
		x := m.lay(of(1, 1, 512))
		m.remember()
		n := []api.Layer{{Kind: api.Linear, W: x, B: x}, {Kind: api.Scale, W: x}, {Kind: api.Shift, B: x}}
		a := asked{n, x, x, every}
		a.must(t, "the same list")
		grads, _, _, _ := Back(n, x, x, every)
		m.stays(t, "the same list")
		mustBeApart(t, "the same list", append(takeApart(grads), m.cells[0]))
	}
}

// TestRuleP2RefusedListsStay: nor is anything written where a call refuses, be it at its last step.
func TestRuleP2RefusedListsStay(t *testing.T) {
	for _, f := range everyFault() {
		a := small()
		f.spoil(&a)
		var m memory
		a = m.layAsked(a)
		m.remember()
		a.refuse(t, f.name, f.told)
		m.stays(t, f.name)
	}
}

// TestRuleP2AtOnce: calls that are made at once, with the same lists, tell the
// same, and do not mind one another.
func TestRuleP2AtOnce(t *testing.T) {
	r := rand.New(rand.NewSource(11))
	for every := 1; every <= api.MaxLayers; every++ {
		a := someAsked(r, 5, 6, someWords(r, every, api.MaxLayers), every)
		want := a.slowly()
		var calls sync.WaitGroup
		for range 8 {
			calls.Go(func() {
				if got := a.back(); got != want {
					t.Errorf("Back(%v) =\n%s\nwant\n%s", a, got, want)
				}
			})
		}
		calls.Wait()
	}
}
