package crew

import (
	"fmt"
	"math"
	"math/rand"
	"slices"
	"testing"

	"galley/api"
	"galley/train"
)

// memory lays out what is handed in so that something stands behind each list,
// and tells whether any of it was written into.
type memory struct {
	cells   [][]int
	layers  [][]api.Layer
	grads   [][]api.Grad
	batches [][]api.Batch
	acts    [][]api.Act
	plans   [][][]api.Act
	before  string
}

func (m *memory) layInts(l []int) []int {
	// What stands behind is no number: whoever read it would be off.
	list := append(slices.Clone(l), math.MaxInt, 91, math.MinInt, 92)
	m.cells = append(m.cells, list)
	return list[:len(l)]
}

func (m *memory) lay(a api.Matrix) api.Matrix {
	a.Cells = m.layInts(a.Cells)
	return a
}

func (m *memory) layState(s train.State) train.State {
	var n []api.Layer
	for _, l := range s.Net {
		n = append(n, api.Layer{Kind: l.Kind, W: m.lay(l.W), B: m.lay(l.B)})
	}
	n = append(n, slices.Repeat([]api.Layer{{Kind: 9}}, 20)...)
	m.layers = append(m.layers, n)
	var speed []api.Grad
	for _, d := range s.Speed {
		speed = append(speed, api.Grad{W: m.lay(d.W), B: m.lay(d.B)})
	}
	speed = append(speed, api.Grad{W: of(1, 1)}, api.Grad{B: of(-1, 0)})
	m.grads = append(m.grads, speed)
	return train.State{Net: n[:len(s.Net)], Speed: speed[:len(s.Speed)], Steps: s.Steps}
}

func (m *memory) layBatches(l []api.Batch) []api.Batch {
	var list []api.Batch
	for _, b := range l {
		list = append(list, batchOf(m.lay(b.In), m.lay(b.Want)))
	}
	list = append(list, slices.Repeat([]api.Batch{batchOf(of(-1, 0), of(1, 1))}, 25)...)
	m.batches = append(m.batches, list)
	return list[:len(l)]
}

func (m *memory) layPlan(acts [][]api.Act) [][]api.Act {
	var list [][]api.Act
	for _, own := range acts {
		laid := append(slices.Clone(own), api.Act{Kind: 9, Micro: -9}, api.Act{Kind: api.Forward})
		m.acts = append(m.acts, laid)
		list = append(list, laid[:len(own)])
	}
	list = append(list, nil, []api.Act{{Kind: api.Forward}})
	m.plans = append(m.plans, list)
	return list[:len(acts)]
}

func (m *memory) layAsked(a asked) asked {
	return asked{m.layState(a.s), m.layBatches([]api.Batch{a.b})[0], m.layInts(a.ends), m.layPlan(a.plan), a.parts, a.r}
}

func (m *memory) text() string {
	return fmt.Sprint(m.cells, m.layers, m.grads, m.batches, m.acts, m.plans)
}

func (m *memory) remember() { m.before = m.text() }

func (m *memory) stays(t *testing.T, name string) {
	t.Helper()
	if now := m.text(); now != m.before {
		t.Errorf("%s: what was handed in was\n%s\nand is\n%s", name, m.before, now)
	}
}

// spoil writes over all that was handed in, and over what stands behind it.
func (m *memory) spoil() {
	for _, l := range m.cells {
		for i := range l {
			l[i] = 77
		}
	}
	for _, l := range m.layers {
		clear(l)
	}
	for _, l := range m.grads {
		clear(l)
	}
	for _, l := range m.batches {
		clear(l)
	}
	for _, l := range m.acts {
		clear(l)
	}
	for _, l := range m.plans {
		clear(l)
	}
}

// takeApart gives all lists of numbers of a state, and clears what they stood in.
func takeApart(s train.State) [][]int {
	var lists [][]int
	for _, l := range s.Net {
		lists = append(lists, l.W.Cells, l.B.Cells)
	}
	for _, d := range s.Speed {
		lists = append(lists, d.W.Cells, d.B.Cells)
	}
	clear(s.Net[:cap(s.Net)])
	clear(s.Speed[:cap(s.Speed)])
	return lists
}

// mustBeApart writes into all the memory of each list, also behind its length,
// and holds that each still has what was written into it.
func mustBeApart(t *testing.T, name string, lists [][]int) {
	t.Helper()
	for i, l := range lists {
		for j := range l[:cap(l)] {
			l[:cap(l)][j] = i
		}
	}
	for i, l := range lists {
		for _, x := range l[:cap(l)] {
			if x != i {
				t.Errorf("%s: the lists %d and %d share memory", name, i, x)
				break
			}
		}
	}
}

// TestRuleP2ListsStay: what is handed in stays as it is, what stands behind it
// is not read, and what comes out shares memory with nothing, not even with what
// comes out of the same call once more; also where rates of 0, or no batches,
// let a net come out as it came in.
func TestRuleP2ListsStay(t *testing.T) {
	random := rand.New(rand.NewSource(8))
	for stages := 1; stages <= api.MaxStages; stages++ {
		for _, parts := range []int{1, 3, api.MaxMicros} {
			for _, r := range []api.Rates{{}, {Learn: 200, Keep: 100}} {
				for _, p := range planners(random) {
					name := fmt.Sprintf("%d stages, %d parts, rates %v, %s", stages, parts, r, p.name)
					a := someAsked(random, 2*stages, stages, parts, p.plan)
					a.r = r
					for _, count := range []int{0, 1, 3} {
						mustLeaveAll(t, name, a, slices.Repeat([]api.Batch{a.b}, count))
					}
				}
			}
		}
	}
}

func mustLeaveAll(t *testing.T, name string, a asked, l []api.Batch) {
	t.Helper()
	want, wantAll := a.oneByOne(), a.allByOne(l...)
	var m memory
	laid, laidAll := m.layAsked(a), m.layBatches(l)
	m.remember()
	lists := slices.Clone(m.cells)
	for range 2 {
		s, n, err := One(laid.s, laid.b, laid.ends, laid.plan, laid.parts, laid.r)
		if got := answer(s, n, err); got != want || laid.check() != api.OK {
			t.Errorf("%s: One =\n%s\nwant\n%s", name, got, want)
		}
		all, offs, err := All(laid.s, laidAll, laid.ends, laid.plan, laid.parts, laid.r)
		if got := answer(all, offs, err); got != wantAll {
			t.Errorf("%s: All =\n%s\nwant\n%s", name, got, wantAll)
		}
		lists = slices.Concat(lists, takeApart(s), takeApart(all), [][]int{offs})
	}
	m.stays(t, name)
	mustBeApart(t, name, lists)
}

// TestRuleP2TheSameListTwice: one list may be handed in as all of them.
func TestRuleP2TheSameListTwice(t *testing.T) {
	var m memory
	x := m.lay(of(1, 1, 2))
	own := m.layPlan(wave(1, 1))[0]
	m.remember()
	a := asked{
		s: train.State{
			Net:   []api.Layer{linearOf(x, x), {Kind: api.Scale, W: x}, {Kind: api.Shift, B: x}},
			Speed: []api.Grad{{W: x, B: x}, {W: x}, {B: x}},
		},
		b:     batchOf(x, x),
		ends:  []int{1, 2, 3},
		plan:  [][]api.Act{own, own, own},
		parts: 1,
		r:     api.Rates{Learn: 16, Keep: 64},
	}
	a.must(t, "three stages")
	s, _, _ := One(a.s, a.b, a.ends, a.plan, a.parts, a.r)
	all, offs, _ := All(a.s, []api.Batch{a.b, a.b}, a.ends, a.plan, a.parts, a.r)
	mustBeApart(t, "three stages", slices.Concat(takeApart(s), takeApart(all), [][]int{offs}))
	a.s = train.State{Net: []api.Layer{{Kind: api.Scale, W: x}, {Kind: api.Scale, W: x}}, Speed: []api.Grad{{W: x}, {W: x}}}
	a.ends, a.plan = x.Cells, [][]api.Act{own}
	a.must(t, "ends that are a layer's cells")
	m.stays(t, "the same list")
}

// TestRuleP2RefusedListsStay: nor is anything written where a call refuses, be it at its last batch.
func TestRuleP2RefusedListsStay(t *testing.T) {
	for _, f := range everyFault() {
		a := small()
		f.spoil(&a)
		var m memory
		a = m.layAsked(a)
		m.remember()
		a.refuse(t, f.name, f.told)
		m.stays(t, f.name)
	}
	var m memory
	a := m.layAsked(small())
	l := m.layBatches(append(slices.Repeat([]api.Batch{a.b}, 19), api.Batch{}))
	m.remember()
	a.refuseAll(t, "the last of 20", api.ErrShape, l...)
	m.stays(t, "the last of 20")
}
