package mail

import (
	"fmt"
	"math"
	"math/rand"
	"slices"
	"testing"
	"time"

	"galley/api"
	"galley/plain"
)

// message has a message whose Body has so many rows and columns.
func message(kind, micro, rows, cols int, cells ...int) api.Message {
	return api.Message{Kind: kind, Micro: micro, Body: api.Matrix{Rows: rows, Cols: cols, Cells: cells}}
}

// numbered has a message that is like no other one.
func numbered(x int) api.Message {
	return message(1+x%2, x%api.MaxMicros, 1, 2, x, -x)
}

func copyOf(m api.Message) api.Message {
	m.Body.Cells = slices.Clone(m.Body.Cells)
	return m
}

func sameMessage(a, b api.Message) bool {
	return a.Kind == b.Kind && a.Micro == b.Micro && a.Body.Rows == b.Body.Rows && a.Body.Cols == b.Body.Cols &&
		slices.Equal(a.Body.Cells, b.Body.Cells)
}

// right are messages that stages may hand on.
func right() []api.Message {
	return []api.Message{
		message(1, 2, 1, 2, -3, 100),
		message(2, 11, 2, 1, api.Top, -api.Top),
		message(1, 0, 0, 0),
		message(2, 3, 0, 12),
		message(1, 4, 24, 0),
		message(2, 5, 24, 12, slices.Repeat([]int{7, -8, 9}, 96)...),
	}
}

// odd are messages that wire's Encode refuses.
func odd() []api.Message {
	return []api.Message{
		{},
		message(0, 0, 1, 1, 7),
		message(3, 0, 1, 1, 7),
		message(-1, 0, 1, 1, 7),
		message(math.MaxInt, math.MinInt, 0, 0),
		message(1, -1, 1, 1, 7),
		message(1, 12, 1, 1, 7),
		message(1, 0, 25, 1, make([]int, 25)...),
		message(1, 0, 1, 13, make([]int, 13)...),
		message(1, 0, -1, -1, 5),
		message(1, 0, math.MaxInt, math.MaxInt),
		message(1, 0, math.MinInt, 2, 1, 2, 3),
		message(1, 0, 1<<32, 1<<32, 4),
		message(1, 0, 2, 2, 1, 2, 3),
		message(1, 0, 2, 2, 1, 2, 3, 4, 5),
		message(1, 0, 0, 0, 1),
		message(1, 0, 1, 1),
		message(1, 0, 1, 1, api.Top+1),
		message(1, 0, 1, 2, math.MaxInt, math.MinInt),
		message(1, 0, 1, 1, make([]int, 5000)...),
	}
}

func someMessage(r *rand.Rand) api.Message {
	list := append(right(), odd()...)
	if r.Intn(2) == 0 {
		return list[r.Intn(len(list))]
	}
	m := message(r.Intn(4), r.Intn(14)-1, r.Intn(4), r.Intn(4))
	for range r.Intn(9) {
		m.Body.Cells = append(m.Body.Cells, r.Int()-r.Int())
	}
	return m
}

func box(t *testing.T, n int) *Box {
	t.Helper()
	b, err := New(n)
	if b == nil || err != nil {
		t.Fatalf("New(%d) = %v, %v", n, b, err)
	}
	return b
}

// filled has a box in which there are the messages numbered from 1 to count.
func filled(t *testing.T, n, count int) *Box {
	t.Helper()
	b := box(t, n)
	for x := 1; x <= count; x++ {
		mustPut(t, b, numbered(x))
	}
	return b
}

// closed has such a box that is closed.
func closed(t *testing.T, n, count int) *Box {
	t.Helper()
	b := filled(t, n, count)
	b.Close()
	return b
}

func mustLen(t *testing.T, b *Box, want int) {
	t.Helper()
	if got := b.Len(); got != want {
		t.Errorf("Len() = %d, want %d", got, want)
	}
}

// mustPut holds that there is one message more.
func mustPut(t *testing.T, b *Box, m api.Message) {
	t.Helper()
	count := b.Len()
	if err := b.Put(m); err != nil {
		t.Errorf("Put(%v) = %v", m, err)
	}
	mustLen(t, b, count+1)
}

// refusePut holds that there are as many messages as ahead.
func refusePut(t *testing.T, b *Box, m api.Message, told api.Errno) {
	t.Helper()
	count := b.Len()
	if err := b.Put(m); plain.Told(err) != told {
		t.Errorf("Put(%v) = %v, want %v", m, err, told)
	}
	mustLen(t, b, count)
}

// mustTake holds that there is one message less.
func mustTake(t *testing.T, b *Box, want api.Message) {
	t.Helper()
	count := b.Len()
	if got, err := b.Take(); err != nil || !sameMessage(got, want) {
		t.Errorf("Take() = %v, %v, want %v", got, err, want)
	}
	mustLen(t, b, count-1)
}

// mustTakeNumbered takes the messages numbered from one up to another.
func mustTakeNumbered(t *testing.T, b *Box, from, to int) {
	t.Helper()
	for x := from; x <= to; x++ {
		mustTake(t, b, numbered(x))
	}
}

// refuseTake holds that nothing stands beside the error, and that there is still nothing.
func refuseTake(t *testing.T, b *Box, told api.Errno) {
	t.Helper()
	got, err := b.Take()
	if !sameMessage(got, api.Message{}) || plain.Told(err) != told {
		t.Errorf("Take() = %v, %v, want nothing and %v", got, err, told)
	}
	mustLen(t, b, 0)
}

// inTime stops the test where something waits.
func inTime(t *testing.T, name string, do func()) {
	t.Helper()
	done := make(chan struct{})
	go func() {
		defer close(done)
		do()
	}()
	select {
	case <-done:
	case <-time.After(time.Minute):
		t.Fatalf("%s waits", name)
	}
}

// slowBox does what the chapter says, with a list.
type slowBox struct {
	room   int
	list   []api.Message
	closed bool
}

func (s *slowBox) put(m api.Message) api.Errno {
	if s.closed {
		return api.ErrOrder
	}
	if len(s.list) == s.room {
		return api.ErrFull
	}
	s.list = append(s.list, copyOf(m))
	return api.OK
}

func (s *slowBox) take() (api.Message, api.Errno) {
	if len(s.list) == 0 && s.closed {
		return api.Message{}, api.ErrOrder
	}
	if len(s.list) == 0 {
		return api.Message{}, api.ErrNone
	}
	m := s.list[0]
	s.list = s.list[1:]
	return m, api.OK
}

// pair has a box, and the slow one that it is held against.
type pair struct {
	box  *Box
	slow slowBox
}

func pairOf(t *testing.T, room int) *pair {
	t.Helper()
	return &pair{box(t, room), slowBox{room: room}}
}

func (p *pair) put(t *testing.T, name string, m api.Message) api.Errno {
	t.Helper()
	told := p.slow.put(m)
	if err := p.box.Put(m); plain.Told(err) != told {
		t.Fatalf("%s: Put(%v) = %v, want %v", name, m, err, told)
	}
	p.sameLen(t, name)
	return told
}

func (p *pair) take(t *testing.T, name string) api.Errno {
	t.Helper()
	want, told := p.slow.take()
	if got, err := p.box.Take(); plain.Told(err) != told || !sameMessage(got, want) {
		t.Fatalf("%s: Take() = %v, %v, want %v, %v", name, got, err, want, told)
	}
	p.sameLen(t, name)
	return told
}

func (p *pair) close(t *testing.T, name string) {
	t.Helper()
	p.slow.closed = true
	p.box.Close()
	p.sameLen(t, name)
}

func (p *pair) sameLen(t *testing.T, name string) {
	t.Helper()
	if got := p.box.Len(); got != len(p.slow.list) {
		t.Fatalf("%s: Len() = %d, want %d", name, got, len(p.slow.list))
	}
}

// words tells which calls were made, by their first letters.
func words(room int, calls string) string { return fmt.Sprintf("room for %d, %s", room, calls) }
