package net

import (
	"fmt"
	"math"
	"math/rand"
	"slices"
	"testing"

	"galley/api"
)

// memory lays out what is handed in so that something stands behind each list,
// and tells whether any of it was written into.
type memory struct {
	cells  [][]int
	layers [][]api.Layer
	saws   [][]api.Matrix
	grads  [][]api.Grad
	before string
}

func (m *memory) lay(a api.Matrix) api.Matrix {
	// What stands behind is no number: whoever read it would be off.
	list := append(slices.Clone(a.Cells), math.MaxInt, 91, math.MinInt, 92)
	m.cells = append(m.cells, list)
	a.Cells = list[:len(a.Cells)]
	return a
}

func (m *memory) layNet(n []api.Layer) []api.Layer {
	var list []api.Layer
	for _, l := range n {
		list = append(list, api.Layer{Kind: l.Kind, W: m.lay(l.W), B: m.lay(l.B)})
	}
	list = append(list, slices.Repeat([]api.Layer{{Kind: 9}}, 20)...)
	m.layers = append(m.layers, list)
	return list[:len(n)]
}

func (m *memory) laySaw(saw []api.Matrix) []api.Matrix {
	var list []api.Matrix
	for _, a := range saw {
		list = append(list, m.lay(a))
	}
	list = append(list, of(-1, -1), of(1, 1))
	m.saws = append(m.saws, list)
	return list[:len(saw)]
}

func (m *memory) layGrads(grads []api.Grad) []api.Grad {
	var list []api.Grad
	for _, d := range grads {
		list = append(list, api.Grad{W: m.lay(d.W), B: m.lay(d.B)})
	}
	list = append(list, api.Grad{W: of(1, 1)}, api.Grad{B: of(-1, 0)})
	m.grads = append(m.grads, list)
	return list[:len(grads)]
}

func (m *memory) text() string { return fmt.Sprint(m.cells, m.layers, m.saws, m.grads) }

func (m *memory) remember() { m.before = m.text() }

func (m *memory) stays(t *testing.T, name string) {
	t.Helper()
	if now := m.text(); now != m.before {
		t.Errorf("%s: what was handed in was\n%s\nand is\n%s", name, m.before, now)
	}
}

func cellsOf(all ...api.Matrix) [][]int {
	var lists [][]int
	for _, a := range all {
		lists = append(lists, a.Cells)
	}
	return lists
}

func cellsOfGrads(grads []api.Grad) [][]int {
	var lists [][]int
	for _, d := range grads {
		lists = append(lists, d.W.Cells, d.B.Cells)
	}
	return lists
}

// mustBeApart writes into all the memory of each list, also behind its length,
// and holds that each still has what was written into it.
func mustBeApart(t *testing.T, name string, lists [][]int) {
	t.Helper()
	for i, l := range lists {
		for j := range l[:cap(l)] {
			l[:cap(l)][j] = i
		}
	}
	for i, l := range lists {
		for _, x := range l[:cap(l)] {
			if x != i {
				t.Errorf("%s: the lists %d and %d share memory", name, i, x)
				break
			}
		}
	}
}

// TestP2ListsStay: what is handed in stays as it is, what stands behind it is
// not read, and what comes out shares memory with nothing, not even with what
// comes out of the same call once more.
func TestP2ListsStay(t *testing.T) {
	r := rand.New(rand.NewSource(5))
	for count := range api.MaxLayers + 1 {
		for _, rows := range []int{0, 1, 12} {
			name := fmt.Sprintf("%d layers, %d rows", count, rows)
			n, x := someNet(r, count, 3), some(r, rows, 3)
			saw, _ := goSlowly(n, x)
			g := some(r, rows, saw[count].Cols)
			to, grads, _ := backSlowly(n, saw, g)
			var m memory
			laidNet, laidX, laidSaw, laidG, laidGrads := m.layNet(n), m.lay(x), m.laySaw(saw), m.lay(g), m.layGrads(grads)
			m.remember()
			lists := slices.Clone(m.cells)
			for range 2 {
				mustCheck(t, name, laidNet, 3, saw[count].Cols, api.OK)
				gotSaw, err := Go(laidNet, laidX)
				if !sameAll(gotSaw, saw) || err != nil {
					t.Errorf("%s: Go = %v, %v; want %v", name, gotSaw, err, saw)
				}
				gotTo, gotGrads, err := Back(laidNet, laidSaw, laidG)
				if !same(gotTo, to) || !sameGrads(gotGrads, grads) || err != nil {
					t.Errorf("%s: Back = %v, %v, %v; want %v, %v", name, gotTo, gotGrads, err, to, grads)
				}
				zero := Zero(laidNet)
				sums, err := Gather(laidGrads, zero)
				if !sameGrads(sums, grads) || err != nil {
					t.Errorf("%s: Gather = %v, %v; want %v", name, sums, err, grads)
				}
				lists = slices.Concat(lists, cellsOf(gotSaw...), cellsOf(gotTo), cellsOfGrads(gotGrads), cellsOfGrads(zero), cellsOfGrads(sums))
				clear(gotSaw[:cap(gotSaw)])
				clear(gotGrads[:cap(gotGrads)])
				clear(zero[:cap(zero)])
				clear(sums[:cap(sums)])
			}
			m.stays(t, name)
			mustBeApart(t, name, lists)
		}
	}
}

// TestP2TheSameListTwice: one list may be handed in as all of them.
func TestP2TheSameListTwice(t *testing.T) {
	var m memory
	a := m.lay(of(1, 1, 512))
	m.remember()
	n := []api.Layer{{Kind: api.Linear, W: a, B: a}, {Kind: api.Scale, W: a}, {Kind: api.Shift, B: a}}
	mustGo(t, "all the same", n, a, []api.Matrix{a, of(1, 1, 1536), of(1, 1, 3072), of(1, 1, 3584)}, api.OK)
	saw := []api.Matrix{a, a, a, a}
	grads := []api.Grad{{W: of(1, 1, 2048), B: of(1, 1, 1024)}, {W: of(1, 1, 1024)}, {B: of(1, 1, 512)}}
	mustBack(t, "all the same", n, saw, a, of(1, 1, 2048), grads, api.OK)
	d := []api.Grad{{W: a, B: a}, {W: a}, {B: a}}
	two := of(1, 1, 1024)
	mustGather(t, "all the same", d, d, []api.Grad{{W: two, B: two}, {W: two}, {B: two}}, api.OK)
	zero := Zero(n)
	mustBeApart(t, "Zero", append(cellsOfGrads(zero), a.Cells[:1:1]))
	a.Cells[0] = 512
	m.stays(t, "all the same")
}

// TestP2RefusedListsStay: nor is anything written where a call refuses, be it at its last step.
func TestP2RefusedListsStay(t *testing.T) {
	var m memory
	n := m.layNet(append(relus(3), shiftOf(1, 2, 3)))
	back := m.layNet(append(netOf(api.Layer{Kind: 9}), relus(3)...))
	x, saw := m.lay(full(2, 2, 7)), m.laySaw(slices.Repeat([]api.Matrix{full(2, 2, 7)}, 5))
	a := m.layGrads([]api.Grad{{W: of(1, 1, 5)}, {B: of(1, 1, 5)}})
	b := m.layGrads([]api.Grad{{W: of(1, 1, 5)}, {B: of(1, 2, 5, 6)}})
	m.remember()
	mustCheck(t, "columns of the last", n, 2, 0, api.ErrShape)
	refuseGo(t, "columns of the last", n, x, api.ErrShape)
	refuseBack(t, "the first layer", back, saw, x, api.ErrRange)
	refuseGather(t, "the last one", a, b, api.ErrShape)
	m.stays(t, "refused")
}
