package keep

import (
	"fmt"
	"math"
	"slices"
	"testing"

	"galley/api"
	"galley/plain"
	"galley/train"
)

// memory has lists behind each of which something stands, and tells whether any
// of it was written into.
type memory struct {
	look []func() string
	was  string
}

func (m *memory) text() string {
	var all string
	for _, look := range m.look {
		all += look() + "\n"
	}
	return all
}

func (m *memory) remember() { m.was = m.text() }

func (m *memory) stays(t *testing.T, name string) {
	t.Helper()
	if now := m.text(); now != m.was {
		t.Errorf("%s: what was handed in was %s and is %s", name, m.was, now)
	}
}

// lay copies a list, and lays something behind it.
func lay[T any](m *memory, list []T, behind ...T) []T {
	whole := append(slices.Clone(list), behind...)
	m.look = append(m.look, func() string { return fmt.Sprint(whole) })
	return whole[:len(list)]
}

func (m *memory) layMatrix(a api.Matrix) api.Matrix {
	// What stands behind is no number: whoever read it would be off.
	a.Cells = lay(m, a.Cells, 91, math.MaxInt, math.MinInt)
	return a
}

func (m *memory) layState(s train.State) train.State {
	var n []api.Layer
	for _, l := range s.Net {
		n = append(n, api.Layer{Kind: l.Kind, W: m.layMatrix(l.W), B: m.layMatrix(l.B)})
	}
	var speed []api.Grad
	for _, d := range s.Speed {
		speed = append(speed, api.Grad{W: m.layMatrix(d.W), B: m.layMatrix(d.B)})
	}
	behind := slices.Repeat(netOf(api.Layer{Kind: 9}), 13)
	return stateOf(lay(m, n, behind...), lay(m, speed, make([]api.Grad, 13)...), s.Steps)
}

// TestRuleP2ListsStay: nothing that is handed in is written into, and nothing
// that stands behind it is read.
func TestRuleP2ListsStay(t *testing.T) {
	for i, s := range right() {
		name := fmt.Sprint("state ", i)
		b := slowSave(s)
		var m memory
		laid := m.layState(s)
		bytes := lay(&m, b, 1, 2, 3)
		m.remember()
		mustSave(t, name, laid, b)
		mustLoad(t, name, bytes, s)
		m.stays(t, name)
	}
}

// TestRuleP2RefusedListsStay: nor where they are refused, and what is missing
// stands behind the length.
func TestRuleP2RefusedListsStay(t *testing.T) {
	for _, f := range everyFault() {
		s := small()
		f.spoil(&s)
		var m memory
		laid := m.layState(s)
		m.remember()
		refuseSave(t, f.name, laid, f.told)
		m.stays(t, f.name)
	}
	for i, s := range littleOnes() {
		name := fmt.Sprint("state ", i)
		b := slowSave(s)
		var m memory
		var shorter [][]byte
		for long := range b {
			shorter = append(shorter, lay(&m, b[:long], b[long:]...))
		}
		turned := slices.Clone(b)
		turned[len(b)-1]++
		shorter = append(shorter, lay(&m, turned, b...))
		m.remember()
		for _, list := range shorter {
			refuseLoad(t, name, list)
		}
		m.stays(t, name)
	}
	s := small()
	cells := s.Net[0].W.Cells
	s.Net[0].W.Cells = cells[:len(cells)-1]
	refuseSave(t, "a cell stands behind the length", s, api.ErrShape)
}

// takeApart gives all lists of numbers of a state, also behind their lengths,
// and clears what they stood in.
func takeApart(s train.State) [][]int {
	var lists [][]int
	for i := range s.Net {
		for _, a := range matricesOf(s, i) {
			lists = append(lists, a.Cells[:cap(a.Cells)])
		}
	}
	clear(s.Net[:cap(s.Net)])
	clear(s.Speed[:cap(s.Speed)])
	return lists
}

// mustBeApart writes into each list, and holds that each still has what was written into it.
func mustBeApart[T byte | int](t *testing.T, name string, lists [][]T) {
	t.Helper()
	for i, list := range lists {
		for j := range list {
			list[j] = T(i + 7)
		}
	}
	for i, list := range lists {
		for _, x := range list {
			if x != T(i+7) {
				t.Errorf("%s: the lists %d and %d share memory", name, i, x-7)
				break
			}
		}
	}
}

// TestRuleP2AnswersAreApart: what is told shares memory neither with what was
// handed in nor with what is told once more.
func TestRuleP2AnswersAreApart(t *testing.T) {
	for i, s := range right() {
		name := fmt.Sprint("state ", i)
		var m memory
		laid, b := m.layState(s), lay(&m, slowSave(s), 1, 2, 3)
		m.remember()
		var written [][]byte
		var cells [][]int
		for range 2 {
			told, err := Save(laid)
			back, other := Load(b)
			if err != nil || other != nil {
				t.Fatalf("%s: %v, %v", name, err, other)
			}
			written = append(written, told[:cap(told)])
			cells = append(cells, takeApart(back)...)
		}
		mustBeApart(t, name, written)
		mustBeApart(t, name, cells)
		m.stays(t, name)
		mustBoth(t, name, laid, b)
	}
}

// TestRuleP2OneListManyTimes: a list that stands in many places comes out once for each.
func TestRuleP2OneListManyTimes(t *testing.T) {
	x := of(1, 1, 512)
	s := stateOf(netOf(linearOf(x, x), api.Layer{Kind: api.Scale, W: x}), gradsOf(api.Grad{W: x, B: x}, api.Grad{W: x}), 0)
	u, err := Load(mustSaved(t, "one list", s))
	if err != nil || !sameState(u, s) {
		t.Fatalf("Load = %v, %v", u, err)
	}
	mustBeApart(t, "one list", takeApart(u))
	if x.Cells[0] != 512 {
		t.Errorf("what was handed in is %v", x)
	}
}

// TestRuleP2NothingIsKept: what is told hangs on nothing that was asked ahead,
// and not on what the lists of a call ahead have become.
func TestRuleP2NothingIsKept(t *testing.T) {
	s := small()
	for steps := range 20 {
		s.Steps, s.Net[0].W.Cells[0] = steps, -steps
		first := slowSave(s)
		b, err := Save(s)
		if err != nil || !slices.Equal(b, first) {
			t.Fatalf("Save(%v) = %v, %v", s, b, err)
		}
		back, err := Load(b)
		if err != nil || !sameState(back, s) {
			t.Fatalf("Load(%v) = %v, %v", b, back, err)
		}
		s.Net[0].W.Cells[0]--
		if !slices.Equal(b, first) || back.Net[0].W.Cells[0] != -steps {
			t.Errorf("an answer went on with the cells: %v, %v", b, back)
		}
		clear(b)
		if back.Net[0].W.Cells[1] != 100 {
			t.Errorf("an answer went on with the bytes: %v", back)
		}
		refuseLoad(t, "cleared", b)
	}
}

// TestRuleP2AtOnce: calls that are made at once tell what they tell alone.
func TestRuleP2AtOnce(t *testing.T) {
	list := right()
	done := make(chan bool)
	for range 8 {
		go func() {
			defer func() { done <- true }()
			for i, s := range list {
				b, err := Save(s)
				u, other := Load(b)
				if err != nil || other != nil || !sameState(u, s) {
					t.Errorf("state %d: %v, %v", i, err, other)
				}
			}
		}()
	}
	for range 8 {
		<-done
	}
}

// TestRuleP3Errors: each error is one of the program's, and never OK.
func TestRuleP3Errors(t *testing.T) {
	for _, f := range everyFault() {
		s := small()
		f.spoil(&s)
		if _, err := Save(s); err == nil || plain.Told(err) < api.ErrRange || plain.Told(err) > api.ErrTwice {
			t.Errorf("%s: Save tells %v", f.name, err)
		}
	}
	for _, b := range [][]byte{nil, {71}, {71, 1, 0, 0, 72, 33}} {
		if _, err := Load(b); err == nil || plain.Told(err) != api.ErrSyntax {
			t.Errorf("Load(%v) tells %v", b, err)
		}
	}
}
