package team

import (
	"fmt"
	"math"
	"math/rand"
	"slices"
	"sync"
	"testing"

	"galley/api"
	"galley/train"
)

// memory lays out what is handed in so that something stands behind each list,
// and tells whether any of it was written into.
type memory struct {
	cells   [][]int
	layers  [][]api.Layer
	grads   [][]api.Grad
	batches [][]api.Batch
	before  string
}

func (m *memory) lay(a api.Matrix) api.Matrix {
	// What stands behind is no number: whoever read it would be off.
	list := append(slices.Clone(a.Cells), math.MaxInt, 91, math.MinInt, 92)
	m.cells = append(m.cells, list)
	a.Cells = list[:len(a.Cells)]
	return a
}

func (m *memory) layState(s train.State) train.State {
	var n []api.Layer
	for _, l := range s.Net {
		n = append(n, api.Layer{Kind: l.Kind, W: m.lay(l.W), B: m.lay(l.B)})
	}
	n = append(n, slices.Repeat([]api.Layer{{Kind: 9}}, 20)...)
	m.layers = append(m.layers, n)
	var speed []api.Grad
	for _, d := range s.Speed {
		speed = append(speed, api.Grad{W: m.lay(d.W), B: m.lay(d.B)})
	}
	speed = append(speed, api.Grad{W: of(1, 1)}, api.Grad{B: of(-1, 0)})
	m.grads = append(m.grads, speed)
	return train.State{Net: n[:len(s.Net)], Speed: speed[:len(s.Speed)], Steps: s.Steps}
}

func (m *memory) layBatches(l []api.Batch) []api.Batch {
	var list []api.Batch
	for _, b := range l {
		list = append(list, batchOf(m.lay(b.In), m.lay(b.Want)))
	}
	list = append(list, slices.Repeat([]api.Batch{batchOf(of(-1, 0), of(1, 1))}, 25)...)
	m.batches = append(m.batches, list)
	return list[:len(l)]
}

func (m *memory) layAsked(a asked) asked {
	a.s, a.b = m.layState(a.s), m.layBatches([]api.Batch{a.b})[0]
	return a
}

func (m *memory) text() string { return fmt.Sprint(m.cells, m.layers, m.grads, m.batches) }

func (m *memory) remember() { m.before = m.text() }

func (m *memory) stays(t *testing.T, name string) {
	t.Helper()
	if now := m.text(); now != m.before {
		t.Errorf("%s: what was handed in was\n%s\nand is\n%s", name, m.before, now)
	}
}

// spoil writes over all that was handed in, and over what stands behind it.
func (m *memory) spoil() {
	for _, l := range m.cells {
		for i := range l {
			l[i] = 77
		}
	}
	for _, l := range m.layers {
		clear(l)
	}
	for _, l := range m.grads {
		clear(l)
	}
	for _, l := range m.batches {
		clear(l)
	}
}

// takeApart gives all lists of numbers of a state, and clears what they stood in.
func takeApart(s train.State) [][]int {
	var lists [][]int
	for _, l := range s.Net {
		lists = append(lists, l.W.Cells, l.B.Cells)
	}
	for _, d := range s.Speed {
		lists = append(lists, d.W.Cells, d.B.Cells)
	}
	clear(s.Net[:cap(s.Net)])
	clear(s.Speed[:cap(s.Speed)])
	return lists
}

// mustBeApart writes into all the memory of each list, also behind its length,
// and holds that each still has what was written into it.
func mustBeApart(t *testing.T, name string, lists [][]int) {
	t.Helper()
	for i, l := range lists {
		for j := range l[:cap(l)] {
			l[:cap(l)][j] = i
		}
	}
	for i, l := range lists {
		for _, x := range l[:cap(l)] {
			if x != i {
				t.Errorf("%s: the lists %d and %d share memory", name, i, x)
				break
			}
		}
	}
}

// TestRuleP2ListsStay: what is handed in stays as it is, what stands behind it
// is not read, and what comes out shares memory with nothing, not even with what
// comes out of the same call once more; also of one hand, and where rates of 0,
// or no batches, let a net come out as it came in.
func TestRuleP2ListsStay(t *testing.T) {
	random := rand.New(rand.NewSource(9))
	for crew := 1; crew <= api.MaxCrew; crew++ {
		for _, c := range counted {
			for _, r := range []api.Rates{{}, {Learn: 200, Keep: 100}} {
				a := someAsked(random, c.in, c.words, crew, 1+random.Intn(api.MaxRows/api.MaxCrew))
				a.r = r
				name := fmt.Sprintf("%d hands, %s, rates %v", crew, c.words, r)
				for _, count := range []int{0, 1, 3} {
					mustLeaveAll(t, name, a, slices.Repeat([]api.Batch{a.b}, count))
				}
			}
		}
	}
}

func mustLeaveAll(t *testing.T, name string, a asked, l []api.Batch) {
	t.Helper()
	want, wantAll := a.oneSlowly(), a.allSlowly(l...)
	var m memory
	laid, laidAll := m.layAsked(a), m.layBatches(l)
	m.remember()
	lists := slices.Clone(m.cells)
	for range 2 {
		s, off, err := One(laid.s, laid.b, laid.crew, laid.parts, laid.r)
		if got := answer(s, off, err); got != want {
			t.Errorf("%s: One =\n%s\nwant\n%s", name, got, want)
		}
		all, offs, err := All(laid.s, laidAll, laid.crew, laid.parts, laid.r)
		if got := answer(all, offs, err); got != wantAll {
			t.Errorf("%s: All =\n%s\nwant\n%s", name, got, wantAll)
		}
		lists = slices.Concat(lists, takeApart(s), takeApart(all), [][]int{offs})
	}
	m.stays(t, name)
	mustBeApart(t, name, lists)
}

// TestRuleP2NothingIsKept: what was told stays, and is told again, when all that
// was handed in is written over.
func TestRuleP2NothingIsKept(t *testing.T) {
	random := rand.New(rand.NewSource(10))
	for crew := 1; crew <= api.MaxCrew; crew++ {
		for _, c := range counted {
			a := someAsked(random, c.in, c.words, crew, 1)
			want, wantAll := a.oneSlowly(), a.allSlowly(a.b, a.b)
			for range 2 {
				var m memory
				laid := m.layAsked(a)
				l := m.layBatches([]api.Batch{a.b, a.b})
				s, off, err := One(laid.s, laid.b, laid.crew, laid.parts, laid.r)
				all, offs, wrong := All(laid.s, l, laid.crew, laid.parts, laid.r)
				m.spoil()
				if got := answer(s, off, err); got != want {
					t.Errorf("%d hands, %s: One =\n%s\nwant\n%s", crew, c.words, got, want)
				}
				if got := answer(all, offs, wrong); got != wantAll {
					t.Errorf("%d hands, %s: All =\n%s\nwant\n%s", crew, c.words, got, wantAll)
				}
			}
		}
	}
}

// TestRuleP2TheSameListTwice: one list may be handed in as all of them.
func TestRuleP2TheSameListTwice(t *testing.T) {
	var m memory
	x := m.lay(of(1, 1, 2))
	two := m.lay(column(300, -200))
	m.remember()
	a := asked{
		s: train.State{
			Net:   []api.Layer{linearOf(x, x), {Kind: api.Scale, W: x}, {Kind: api.Shift, B: x}},
			Speed: []api.Grad{{W: x, B: x}, {W: x}, {B: x}},
		},
		b:     batchOf(x, x),
		crew:  1,
		parts: 1,
		r:     api.Rates{Learn: 16, Keep: 64},
	}
	a.must(t, "one hand")
	a.b, a.crew = batchOf(two, two), 2
	a.must(t, "two hands")
	s, _, _ := One(a.s, a.b, a.crew, a.parts, a.r)
	all, offs, _ := All(a.s, []api.Batch{a.b, a.b}, a.crew, a.parts, a.r)
	none, _, _ := All(a.s, nil, a.crew, a.parts, a.r)
	m.stays(t, "the same list")
	mustBeApart(t, "two hands", slices.Concat(m.cells, takeApart(s), takeApart(all), takeApart(none), [][]int{offs}))
}

// TestRuleP2RefusedListsStay: nor is anything written where a call refuses, be it at its last batch.
func TestRuleP2RefusedListsStay(t *testing.T) {
	for _, f := range everyFault() {
		a := small()
		f.spoil(&a)
		var m memory
		a = m.layAsked(a)
		m.remember()
		a.refuse(t, f.name, f.told)
		m.stays(t, f.name)
	}
	var m memory
	a := m.layAsked(small())
	l := m.layBatches(append(slices.Repeat([]api.Batch{a.b}, 19), api.Batch{}))
	m.remember()
	a.refuseAll(t, "the last of 20", api.ErrShape, l...)
	m.stays(t, "the last of 20")
}

// TestRuleP2AtOnce: calls that are made at once, with the same lists, tell the
// same, and do not mind one another.
func TestRuleP2AtOnce(t *testing.T) {
	r := rand.New(rand.NewSource(11))
	for _, words := range []string{"L3 R C S", "S S S S S", "L12 L12"} {
		for crew := 1; crew <= api.MaxCrew; crew++ {
			a := someAsked(r, api.MaxSide, words, crew, 2)
			want, wantAll := a.oneSlowly(), a.allSlowly(a.b, a.b)
			var calls sync.WaitGroup
			for range 8 {
				calls.Go(func() {
					if got := a.one(); got != want {
						t.Errorf("One(%v) =\n%s\nwant\n%s", a, got, want)
					}
					if got := a.all(a.b, a.b); got != wantAll {
						t.Errorf("All(%v) =\n%s\nwant\n%s", a, got, wantAll)
					}
				})
			}
			calls.Wait()
		}
	}
}
