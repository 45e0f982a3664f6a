package drill

import (
	"fmt"
	"math"
	"math/rand"
	"slices"
	"sync"
	"testing"

	"galley/api"
	"galley/train"
)

// memory has lists behind each of which something stands, tells whether any of
// it was written into, and writes over it.
type memory struct {
	look  []func() string
	wipe  []func()
	cells [][]int
	was   string
}

func (m *memory) text() string {
	var all string
	for _, look := range m.look {
		all += look() + "\n"
	}
	return all
}

func (m *memory) remember() { m.was = m.text() }

func (m *memory) stays(t *testing.T, name string) {
	t.Helper()
	if now := m.text(); now != m.was {
		t.Errorf("%s: what was handed in was %s and is %s", name, m.was, now)
	}
}

func (m *memory) spoil() {
	for _, wipe := range m.wipe {
		wipe()
	}
}

// lay copies a list, and lays something behind it.
func lay[T any](m *memory, list []T, behind ...T) []T {
	whole := append(slices.Clone(list), behind...)
	m.look = append(m.look, func() string { return fmt.Sprint(whole) })
	m.wipe = append(m.wipe, func() {
		for i := range whole {
			whole[i] = behind[0]
		}
	})
	return whole[:len(list)]
}

func (m *memory) layNumbers(l []int) []int {
	// What stands behind is no number: whoever read it would be off.
	l = lay(m, l, math.MinInt, 91, math.MaxInt)
	m.cells = append(m.cells, l)
	return l
}

func (m *memory) layMatrix(a api.Matrix) api.Matrix {
	a.Cells = m.layNumbers(a.Cells)
	return a
}

func (m *memory) layAsked(a asked) asked {
	var n []api.Layer
	for _, l := range a.s.Net {
		n = append(n, api.Layer{Kind: l.Kind, W: m.layMatrix(l.W), B: m.layMatrix(l.B)})
	}
	var speed []api.Grad
	for _, d := range a.s.Speed {
		speed = append(speed, api.Grad{W: m.layMatrix(d.W), B: m.layMatrix(d.B)})
	}
	var list []api.Batch
	for _, b := range a.l {
		list = append(list, batchOf(m.layMatrix(b.In), m.layMatrix(b.Want)))
	}
	a.s.Net = lay(m, n, slices.Repeat([]api.Layer{{Kind: 9}}, 13)...)
	a.s.Speed = lay(m, speed, slices.Repeat([]api.Grad{{W: of(-1, 0)}}, 13)...)
	a.l = lay(m, list, slices.Repeat([]api.Batch{batchOf(of(-1, 0), of(1, 1))}, 21)...)
	a.falls = m.layNumbers(a.falls)
	return a
}

// takeApart gives all lists of numbers of a state, and clears what they stood in.
func takeApart(s train.State) [][]int {
	var lists [][]int
	for _, l := range s.Net {
		lists = append(lists, l.W.Cells, l.B.Cells)
	}
	for _, d := range s.Speed {
		lists = append(lists, d.W.Cells, d.B.Cells)
	}
	clear(s.Net[:cap(s.Net)])
	clear(s.Speed[:cap(s.Speed)])
	return lists
}

// mustBeApart writes into all the memory of each list, also behind its length,
// and holds that each still has what was written into it.
func mustBeApart(t *testing.T, name string, lists [][]int) {
	t.Helper()
	for i, l := range lists {
		for j := range l[:cap(l)] {
			l[:cap(l)][j] = i
		}
	}
	for i, l := range lists {
		for _, x := range l[:cap(l)] {
			if x != i {
				t.Errorf("%s: the lists %d and %d share memory", name, i, x)
				break
			}
		}
	}
}

// everyRates let a net be turned, or come out as it came in.
func everyRates() []api.Rates { return []api.Rates{{}, {Learn: 200, Keep: 100}, {Keep: 256}} }

// TestRuleP2ListsStay: what is handed in stays as it is, what stands behind it
// is not read, and what comes out shares memory with nothing, not even with what
// comes out of the same call once more; also of no batches, of rates of 0, and
// where the last try goes on right from what was kept.
func TestRuleP2ListsStay(t *testing.T) {
	r := rand.New(rand.NewSource(6))
	for layers := range api.MaxLayers + 1 {
		for _, rates := range everyRates() {
			for _, count := range []int{0, 1, 2, 5} {
				for _, falls := range fallings() {
					a := someAsked(r, layers, count, 1+r.Intn(6))
					a.r, a.falls = rates, falls
					mustLeave(t, fmt.Sprintf("%d layers, %d batches, %v, falls %v", layers, count, rates, falls), a)
				}
			}
		}
	}
}

func mustLeave(t *testing.T, name string, a asked) {
	t.Helper()
	want := a.slowly(t)
	var m memory
	laid := m.layAsked(a)
	m.remember()
	lists := slices.Clone(m.cells)
	for range 2 {
		s, tries, err := Run(laid.s, laid.l, laid.parts, laid.r, laid.every, laid.falls)
		if got := answer(s, tries, err); got != want {
			t.Errorf("%s: Run =\n%s\nwant\n%s", name, got, want)
		}
		lists = append(lists, takeApart(s)...)
	}
	m.stays(t, name)
	mustBeApart(t, name, lists)
}

// TestRuleP2NothingIsKept: what was told stays, and is told again, when all that
// was handed in is written over.
func TestRuleP2NothingIsKept(t *testing.T) {
	r := rand.New(rand.NewSource(7))
	for layers := range api.MaxLayers + 1 {
		for _, count := range []int{0, 1, 4} {
			a := someAsked(r, layers, count, 2)
			want := a.slowly(t)
			for range 2 {
				var m memory
				laid := m.layAsked(a)
				s, tries, err := Run(laid.s, laid.l, laid.parts, laid.r, laid.every, laid.falls)
				m.spoil()
				if got := answer(s, tries, err); got != want {
					t.Errorf("%d layers, %d batches: Run =\n%s\nwant\n%s", layers, count, got, want)
				}
			}
		}
	}
}

// TestRuleP2TheSameListTwice: one list may be handed in as all of them, the falls among them.
func TestRuleP2TheSameListTwice(t *testing.T) {
	for _, falls := range [][]int{{1}, {2}, {3}} {
		var m memory
		l := m.layNumbers(falls)
		x := of(1, 1, l...)
		a := asked{
			s: train.State{
				Net:   []api.Layer{linearOf(x, x), {Kind: api.Scale, W: x}, {Kind: api.Shift, B: x}},
				Speed: []api.Grad{{W: x, B: x}, {W: x}, {B: x}},
			},
			l:     []api.Batch{batchOf(x, x), batchOf(x, x), batchOf(x, x)},
			parts: 1,
			r:     api.Rates{Learn: 256, Keep: 256},
			every: 2,
			falls: l,
		}
		m.remember()
		mustLeave(t, "the same numbers", a)
		a.must(t, "the same list")
		s, _, _ := Run(a.s, a.l, a.parts, a.r, a.every, a.falls)
		none, _, _ := Run(a.s, nil, a.parts, a.r, a.every, a.falls)
		m.stays(t, "the same list")
		mustBeApart(t, "the same list", slices.Concat(m.cells, takeApart(s), takeApart(none)))
	}
}

// TestRuleP2RefusedListsStay: nor is anything written where it is refused, be it
// at the last batch; and what is missing is not read from behind the length.
func TestRuleP2RefusedListsStay(t *testing.T) {
	for _, f := range everyFault() {
		a := small()
		f.spoil(&a)
		var m memory
		a = m.layAsked(a)
		m.remember()
		a.refuse(t, f.name, f.told)
		m.stays(t, f.name)
	}
	a := small()
	cells := a.l[4].In.Cells
	a.l[4].In.Cells = cells[:len(cells)-1]
	a.refuse(t, "a cell stands behind the length", api.ErrShape)
	a = line(4, 2, 2, 4, 3)
	a.falls = a.falls[:2]
	a.must(t, "a wrong fall stands behind the length")
	a = line(4, 2)
	a.l = a.l[:3]
	a.must(t, "a batch stands behind the length")
}

// TestRuleP2AtOnce: calls that are made at once, with the same lists, tell the
// same, and do not mind one another.
func TestRuleP2AtOnce(t *testing.T) {
	r := rand.New(rand.NewSource(8))
	for layers := range 7 {
		a := someAsked(r, layers, 8, 3)
		a.falls = fallsOf(1, 3, 6, 7, 11)
		want := a.slowly(t)
		var calls sync.WaitGroup
		for range 8 {
			calls.Go(func() {
				if got := a.run(); got != want {
					t.Errorf("Run(%v) =\n%s\nwant\n%s", a, got, want)
				}
			})
		}
		calls.Wait()
	}
}
