package train

import (
	"fmt"
	"math"
	"math/rand"
	"slices"
	"testing"

	"galley/api"
)

// memory lays out what is handed in so that something stands behind each list,
// and tells whether any of it was written into.
type memory struct {
	cells   [][]int
	layers  [][]api.Layer
	grads   [][]api.Grad
	batches [][]api.Batch
	before  string
}

func (m *memory) lay(a api.Matrix) api.Matrix {
	// What stands behind is no number: whoever read it would be off.
	list := append(slices.Clone(a.Cells), math.MaxInt, 91, math.MinInt, 92)
	m.cells = append(m.cells, list)
	a.Cells = list[:len(a.Cells)]
	return a
}

func (m *memory) layNet(n []api.Layer) []api.Layer {
	var list []api.Layer
	for _, l := range n {
		list = append(list, api.Layer{Kind: l.Kind, W: m.lay(l.W), B: m.lay(l.B)})
	}
	list = append(list, slices.Repeat([]api.Layer{{Kind: 9}}, 20)...)
	m.layers = append(m.layers, list)
	return list[:len(n)]
}

func (m *memory) layGrads(grads []api.Grad) []api.Grad {
	var list []api.Grad
	for _, d := range grads {
		list = append(list, api.Grad{W: m.lay(d.W), B: m.lay(d.B)})
	}
	list = append(list, api.Grad{W: of(1, 1)}, api.Grad{B: of(-1, 0)})
	m.grads = append(m.grads, list)
	return list[:len(grads)]
}

func (m *memory) layBatches(l []api.Batch) []api.Batch {
	var list []api.Batch
	for _, b := range l {
		list = append(list, batchOf(m.lay(b.In), m.lay(b.Want)))
	}
	list = append(list, slices.Repeat(batches(batchOf(of(-1, 0), of(1, 1))), 25)...)
	m.batches = append(m.batches, list)
	return list[:len(l)]
}

func (m *memory) layState(s State) State {
	return State{Net: m.layNet(s.Net), Speed: m.layGrads(s.Speed), Steps: s.Steps}
}

func (m *memory) text() string { return fmt.Sprint(m.cells, m.layers, m.grads, m.batches) }

func (m *memory) remember() { m.before = m.text() }

func (m *memory) stays(t *testing.T, name string) {
	t.Helper()
	if now := m.text(); now != m.before {
		t.Errorf("%s: what was handed in was\n%s\nand is\n%s", name, m.before, now)
	}
}

// takeApart gives all lists of numbers of a state, and clears what they stood in.
func takeApart(s State) [][]int {
	var lists [][]int
	for _, l := range s.Net {
		lists = append(lists, l.W.Cells, l.B.Cells)
	}
	for _, d := range s.Speed {
		lists = append(lists, d.W.Cells, d.B.Cells)
	}
	clear(s.Net[:cap(s.Net)])
	clear(s.Speed[:cap(s.Speed)])
	return lists
}

// mustBeApart writes into all the memory of each list, also behind its length,
// and holds that each still has what was written into it.
func mustBeApart(t *testing.T, name string, lists [][]int) {
	t.Helper()
	for i, l := range lists {
		for j := range l[:cap(l)] {
			l[:cap(l)][j] = i
		}
	}
	for i, l := range lists {
		for _, x := range l[:cap(l)] {
			if x != i {
				t.Errorf("%s: the lists %d and %d share memory", name, i, x)
				break
			}
		}
	}
}

// TestRuleP2ListsStay: what is handed in stays as it is, what stands behind it
// is not read, and what comes out shares memory with nothing, not even with
// what comes out of the same call once more; also where rates of 0, or no
// batches, let a net come out as it came in.
func TestRuleP2ListsStay(t *testing.T) {
	random := rand.New(rand.NewSource(7))
	for layers := range api.MaxLayers + 1 {
		for _, count := range []int{0, 1, 2, 20} {
			for _, r := range []api.Rates{{}, rates(200, 100)} {
				name := fmt.Sprintf("%d layers, %d batches, rates %v", layers, count, r)
				a := someAsked(random, layers, 1+random.Intn(api.MaxRows))
				a.r = r
				mustLeaveAll(t, name, a, someBatches(random, a, count))
			}
		}
	}
}

func mustLeaveAll(t *testing.T, name string, a asked, l []api.Batch) {
	t.Helper()
	want, off := oneSlowly(a)
	wantAll, wantOffs := allSlowly(a.s, l, a.parts, a.r)
	var m memory
	laid := asked{m.layState(a.s), m.layBatches(batches(a.b))[0], a.parts, a.r}
	laidAll := m.layBatches(l)
	m.remember()
	lists := slices.Clone(m.cells)
	for range 2 {
		mustCheck(t, name, laid.s, api.OK)
		begun := Begin(laid.s.Net)
		if !sameState(begun, stateOf(a.s.Net, zeroGrads(a.s.Net), 0)) {
			t.Errorf("%s: Begin = %v", name, begun)
		}
		s, n, err := One(laid.s, laid.b, laid.parts, laid.r)
		if !sameState(s, want) || n != off || err != nil {
			t.Errorf("%s: One = %v, %d, %v; want %v, %d", name, s, n, err, want, off)
		}
		all, offs, err := All(laid.s, laidAll, laid.parts, laid.r)
		if !sameState(all, wantAll) || !slices.Equal(offs, wantOffs) || err != nil {
			t.Errorf("%s: All = %v, %v, %v; want %v, %v", name, all, offs, err, wantAll, wantOffs)
		}
		lists = slices.Concat(lists, takeApart(begun), takeApart(s), takeApart(all), [][]int{offs})
	}
	m.stays(t, name)
	mustBeApart(t, name, lists)
}

// TestRuleP2TheSameListTwice: one list may be handed in as all of them.
func TestRuleP2TheSameListTwice(t *testing.T) {
	var m memory
	x := m.lay(of(1, 1, 512))
	m.remember()
	n := netOf(linearOf(x, x), api.Layer{Kind: api.Scale, W: x}, api.Layer{Kind: api.Shift, B: x})
	a := asked{stateOf(n, gradsOf(api.Grad{W: x, B: x}, api.Grad{W: x}, api.Grad{B: x}), 0), batchOf(x, x), 1, rates(16, 64)}
	a.mustSlowly(t, "all the same")
	s, _, _ := One(a.s, a.b, a.parts, a.r)
	all, offs, _ := All(a.s, batches(a.b, a.b), a.parts, a.r)
	none, _, _ := All(a.s, nil, a.parts, a.r)
	lists := slices.Concat(takeApart(s), takeApart(all), takeApart(none), takeApart(Begin(n)), [][]int{offs})
	mustBeApart(t, "all the same", lists)
	m.stays(t, "all the same")
}

// TestRuleP2RefusedListsStay: nor is anything written where a call refuses, be it at its last batch.
func TestRuleP2RefusedListsStay(t *testing.T) {
	for _, f := range everyFault() {
		a := small()
		f.spoil(&a)
		var m memory
		a.s = m.layState(a.s)
		l := m.layBatches(batches(a.b, a.b))
		a.b = l[0]
		m.remember()
		a.refuse(t, f.name, f.told)
		refuseAll(t, f.name, a, l, f.told)
		m.stays(t, f.name)
	}
	var m memory
	a := small()
	a.s = m.layState(a.s)
	l := m.layBatches(append(slices.Repeat(batches(a.b), 19), api.Batch{}))
	m.remember()
	refuseAll(t, "the last of 20", a, l, api.ErrShape)
	m.stays(t, "the last of 20")
}
