package step

import (
	"fmt"
	"math"
	"math/rand"
	"slices"
	"testing"

	"galley/api"
)

// memory lays out what is handed in so that something stands behind each list,
// and tells whether any of it was written into.
type memory struct {
	cells  [][]int
	layers [][]api.Layer
	grads  [][]api.Grad
	before string
}

func (m *memory) lay(a api.Matrix) api.Matrix {
	// What stands behind is no number: whoever read it would be off.
	list := append(slices.Clone(a.Cells), math.MaxInt, 91, math.MinInt, 92)
	m.cells = append(m.cells, list)
	a.Cells = list[:len(a.Cells)]
	return a
}

func (m *memory) layNet(n []api.Layer) []api.Layer {
	var list []api.Layer
	for _, l := range n {
		list = append(list, api.Layer{Kind: l.Kind, W: m.lay(l.W), B: m.lay(l.B)})
	}
	list = append(list, slices.Repeat([]api.Layer{{Kind: 9}}, 20)...)
	m.layers = append(m.layers, list)
	return list[:len(n)]
}

func (m *memory) layGrads(grads []api.Grad) []api.Grad {
	var list []api.Grad
	for _, d := range grads {
		list = append(list, api.Grad{W: m.lay(d.W), B: m.lay(d.B)})
	}
	list = append(list, api.Grad{W: of(1, 1)}, api.Grad{B: of(-1, 0)})
	m.grads = append(m.grads, list)
	return list[:len(grads)]
}

func (m *memory) layAll(a asked) asked {
	laid := asked{m.layNet(a.n), m.layGrads(a.speed), m.layGrads(a.by), a.r}
	m.before = m.text()
	return laid
}

func (m *memory) text() string { return fmt.Sprint(m.cells, m.layers, m.grads) }

func (m *memory) stays(t *testing.T, name string) {
	t.Helper()
	if now := m.text(); now != m.before {
		t.Errorf("%s: what was handed in was\n%s\nand is\n%s", name, m.before, now)
	}
}

func cellsOf(n []api.Layer, grads []api.Grad) [][]int {
	var lists [][]int
	for _, l := range n {
		lists = append(lists, l.W.Cells, l.B.Cells)
	}
	for _, d := range grads {
		lists = append(lists, d.W.Cells, d.B.Cells)
	}
	return lists
}

// mustBeApart writes into all the memory of each list, also behind its length,
// and holds that each still has what was written into it.
func mustBeApart(t *testing.T, name string, lists [][]int) {
	t.Helper()
	for i, l := range lists {
		for j := range l[:cap(l)] {
			l[:cap(l)][j] = i
		}
	}
	for i, l := range lists {
		for _, x := range l[:cap(l)] {
			if x != i {
				t.Errorf("%s: the lists %d and %d share memory", name, i, x)
				break
			}
		}
	}
}

// TestRuleP2ListsStay is of the rule P2 that holds everywhere, not of the chapter: what is handed in stays as it
// is, what stands behind it is not read, and what comes out shares memory with
// nothing, not even with what comes out of the same call once more; also where
// a rate of 0 lets a net or a Grad come out as it came in.
func TestRuleP2ListsStay(t *testing.T) {
	r := rand.New(rand.NewSource(6))
	for count := range api.MaxLayers + 1 {
		for _, rate := range []api.Rates{{}, rates(0, 256), rates(256, 0), rates(200, 100)} {
			name := fmt.Sprintf("%d layers, rates %v", count, rate)
			n := someNet(r, count)
			a := asked{n, someGrads(r, n), someGrads(r, n), rate}
			want, wantSpeed := doSlowly(a)
			var m memory
			laid := m.layAll(a)
			lists := slices.Clone(m.cells)
			for range 2 {
				turned, speed, err := Do(laid.n, laid.speed, laid.by, laid.r)
				if !sameNet(turned, want) || !sameGrads(speed, wantSpeed) || err != nil {
					t.Errorf("%s: Do = %v, %v, %v; want %v, %v", name, turned, speed, err, want, wantSpeed)
				}
				lists = slices.Concat(lists, cellsOf(turned, speed))
				clear(turned[:cap(turned)])
				clear(speed[:cap(speed)])
			}
			m.stays(t, name)
			mustBeApart(t, name, lists)
		}
	}
}

// TestRuleP2TheSameListTwice: one list may be handed in as all of them.
func TestRuleP2TheSameListTwice(t *testing.T) {
	var m memory
	x := m.lay(of(1, 1, 512))
	m.before = m.text()
	n := netOf(linearOf(x, x), api.Layer{Kind: api.Scale, W: x}, api.Layer{Kind: api.Shift, B: x})
	d := gradsOf(api.Grad{W: x, B: x}, api.Grad{W: x}, api.Grad{B: x})
	for range 2 {
		turned, speed, err := Do(n, d, d, rates(64, 128))
		v, w := of(1, 1, 768), of(1, 1, 320)
		if !sameNet(turned, netOf(linearOf(w, w), scaleOf(320), shiftOf(320))) || err != nil {
			t.Errorf("the net is %v, %v", turned, err)
		}
		if !sameGrads(speed, gradsOf(api.Grad{W: v, B: v}, api.Grad{W: v}, api.Grad{B: v})) {
			t.Errorf("the speed is %v", speed)
		}
		mustBeApart(t, "all the same", cellsOf(turned, speed))
	}
	m.stays(t, "all the same")
}

// TestRuleP2RefusedListsStay: nor is anything written where a call refuses, be it at its last layer.
func TestRuleP2RefusedListsStay(t *testing.T) {
	for i := range small().n {
		for _, f := range faults() {
			a := small()
			f.spoil(a, i)
			var m memory
			m.layAll(a).refuse(t, "refused", f.told)
			m.stays(t, "refused")
		}
	}
	var m memory
	a := small()
	a.r = rates(257, 0)
	m.layAll(a).refuse(t, "a rate", api.ErrRange)
	m.stays(t, "a rate")
}
