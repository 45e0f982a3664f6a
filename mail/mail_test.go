package mail

import (
	"math"
	"math/rand"
	"testing"

	"galley/api"
	"galley/plain"
	"galley/wire"
)

// TestX1NewEdges: of each size from 1 to MaxBox there is a box, empty and open,
// that has just so much room.
func TestX1NewEdges(t *testing.T) {
	if api.MaxBox != 16 {
		t.Fatalf("MaxBox is %d", api.MaxBox)
	}
	for n := 1; n <= 16; n++ {
		b := box(t, n)
		mustLen(t, b, 0)
		refuseTake(t, b, api.ErrNone)
		for x := 1; x <= n; x++ {
			mustPut(t, b, numbered(x))
		}
		refusePut(t, b, numbered(n+1), api.ErrFull)
		mustLen(t, b, n)
		mustTakeNumbered(t, b, 1, n)
		refuseTake(t, b, api.ErrNone)
	}
}

func TestX1NewRefuses(t *testing.T) {
	for _, n := range []int{
		0, -1, -2, -16, math.MinInt, math.MinInt + 1, 17, 18, 32, 255, 256, 257, 1 << 16, 1<<31 - 1, 1 << 31,
		1<<32 + 1, 1<<32 + 16, 1 << 62, 1<<62 + 1, math.MaxInt - 1, math.MaxInt, 1 - 1<<32, 16 - 1<<62,
	} {
		if b, err := New(n); b != nil || plain.Told(err) != api.ErrRange {
			t.Errorf("New(%d) = %v, %v, want none and ErrRange", n, b, err)
		}
	}
}

func TestX1PutRoom(t *testing.T) {
	b := box(t, 3)
	mustPut(t, b, numbered(1))
	mustLen(t, b, 1)
	mustPut(t, b, numbered(2))
	mustLen(t, b, 2)
	mustPut(t, b, numbered(3))
	mustLen(t, b, 3)
	mustTakeNumbered(t, b, 1, 3)
}

// TestX1PutFull: what there is no room for is not in the box, nor does it take
// another's place; and there is room again behind a Take.
func TestX1PutFull(t *testing.T) {
	for n := 1; n <= api.MaxBox; n++ {
		b := filled(t, n, n)
		for range 3 {
			refusePut(t, b, numbered(100), api.ErrFull)
		}
		mustTake(t, b, numbered(1))
		mustPut(t, b, numbered(n+1))
		refusePut(t, b, numbered(100), api.ErrFull)
		mustTakeNumbered(t, b, 2, n+1)
		refuseTake(t, b, api.ErrNone)
	}
}

// TestX1PutClosed: a closed box is told of ahead of one that is full, and takes
// nothing any more, also where there is room again.
func TestX1PutClosed(t *testing.T) {
	for n := 1; n <= api.MaxBox; n++ {
		for count := range n + 1 {
			b := closed(t, n, count)
			refusePut(t, b, numbered(100), api.ErrOrder)
			for x := 1; x <= count; x++ {
				mustTake(t, b, numbered(x))
				refusePut(t, b, numbered(100), api.ErrOrder)
			}
			refuseTake(t, b, api.ErrOrder)
			refusePut(t, b, numbered(100), api.ErrOrder)
		}
	}
}

func TestX1TakeEmpty(t *testing.T) {
	for n := 1; n <= api.MaxBox; n++ {
		b := box(t, n)
		for range 3 {
			refuseTake(t, b, api.ErrNone)
		}
		mustPut(t, b, numbered(1))
		mustTake(t, b, numbered(1))
		refuseTake(t, b, api.ErrNone)
		b.Close()
		for range 3 {
			refuseTake(t, b, api.ErrOrder)
		}
	}
}

// TestX1TakeClosed: what is in a box when it is closed comes out in its order,
// and only then it is told that it is closed.
func TestX1TakeClosed(t *testing.T) {
	for n := 1; n <= api.MaxBox; n++ {
		for count := range n + 1 {
			b := closed(t, n, count)
			mustLen(t, b, count)
			mustTakeNumbered(t, b, 1, count)
			refuseTake(t, b, api.ErrOrder)
			refuseTake(t, b, api.ErrOrder)
		}
	}
}

// TestX1OrderAgainAndAgain: the room is used again many times over, with as
// many messages left between as may be.
func TestX1OrderAgainAndAgain(t *testing.T) {
	for n := 1; n <= api.MaxBox; n++ {
		for left := range n {
			b := filled(t, n, left)
			for x := left + 1; x <= left+5*n; x++ {
				mustPut(t, b, numbered(x))
				mustTake(t, b, numbered(x-left))
				mustLen(t, b, left)
			}
			mustTakeNumbered(t, b, 5*n+1, 5*n+left)
			refuseTake(t, b, api.ErrNone)
		}
	}
}

// TestX1OrderByHeaps: some are put in, some taken out, as many as just fit.
func TestX1OrderByHeaps(t *testing.T) {
	b := box(t, 5)
	put, taken := 0, 0
	for _, heap := range []int{5, -2, 2, -4, 3, -1, 1, -4, 5, -5, 4, -3, 4, -5} {
		for range heap {
			put++
			mustPut(t, b, numbered(put))
		}
		for range -heap {
			taken++
			mustTake(t, b, numbered(taken))
		}
		mustLen(t, b, put-taken)
	}
	refuseTake(t, b, api.ErrNone)
}

func TestX1CloseEmpty(t *testing.T) {
	b := closed(t, 2, 0)
	mustLen(t, b, 0)
	refuseTake(t, b, api.ErrOrder)
	refusePut(t, b, numbered(1), api.ErrOrder)
	mustLen(t, b, 0)
}

func TestX1CloseFull(t *testing.T) {
	b := closed(t, 2, 2)
	mustLen(t, b, 2)
	refusePut(t, b, numbered(3), api.ErrOrder)
	mustTakeNumbered(t, b, 1, 2)
	refuseTake(t, b, api.ErrOrder)
}

// TestX1CloseTwice: closing what is closed changes nothing, whatever is in it.
func TestX1CloseTwice(t *testing.T) {
	for count := range 4 {
		b := closed(t, 3, count)
		b.Close()
		b.Close()
		mustLen(t, b, count)
		refusePut(t, b, numbered(9), api.ErrOrder)
		for x := 1; x <= count; x++ {
			mustTake(t, b, numbered(x))
			b.Close()
			mustLen(t, b, count-x)
		}
		refuseTake(t, b, api.ErrOrder)
		b.Close()
		refuseTake(t, b, api.ErrOrder)
		refusePut(t, b, numbered(9), api.ErrOrder)
	}
}

// TestX1NobodyWaits: each call ends, though nobody else is there who puts or takes.
func TestX1NobodyWaits(t *testing.T) {
	for _, n := range []int{1, 2, api.MaxBox} {
		inTime(t, "Take of an empty box", func() { refuseTake(t, box(t, n), api.ErrNone) })
		inTime(t, "Put into a box with room", func() { filled(t, n, n) })
		inTime(t, "Put into a full box", func() { refusePut(t, filled(t, n, n), numbered(9), api.ErrFull) })
		inTime(t, "Close of a full box", func() { closed(t, n, n).Close() })
		inTime(t, "Put into a closed box", func() { refusePut(t, closed(t, n, 0), numbered(9), api.ErrOrder) })
		inTime(t, "Put into a closed and full box", func() { refusePut(t, closed(t, n, n), numbered(9), api.ErrOrder) })
		inTime(t, "Take of a closed box", func() {
			b := closed(t, n, n)
			mustTakeNumbered(t, b, 1, n)
			refuseTake(t, b, api.ErrOrder)
		})
	}
}

// TestX1AnyMessage: what wire refuses is put in and comes out as what it takes.
func TestX1AnyMessage(t *testing.T) {
	for _, m := range odd() {
		if b, err := wire.Encode(m); err == nil {
			t.Fatalf("Encode(%v) = %v", m, b)
		}
	}
	for _, m := range append(right(), odd()...) {
		b := box(t, 2)
		mustPut(t, b, m)
		mustPut(t, b, m)
		refusePut(t, b, m, api.ErrFull)
		mustTake(t, b, m)
		b.Close()
		refusePut(t, b, m, api.ErrOrder)
		mustTake(t, b, m)
		refuseTake(t, b, api.ErrOrder)
	}
}

// TestX1BoxesApart: what is done with one box does nothing to another one.
func TestX1BoxesApart(t *testing.T) {
	a, b := filled(t, 2, 2), box(t, 2)
	mustLen(t, b, 0)
	refuseTake(t, b, api.ErrNone)
	mustPut(t, b, numbered(7))
	refusePut(t, a, numbered(8), api.ErrFull)
	a.Close()
	mustPut(t, b, numbered(8))
	mustTake(t, a, numbered(1))
	mustTakeNumbered(t, b, 7, 8)
	refuseTake(t, b, api.ErrNone)
	mustTake(t, a, numbered(2))
	refuseTake(t, a, api.ErrOrder)
	refuseTake(t, b, api.ErrNone)
}

// TestX1AllCalls: whatever calls are made, up to eight in any order, what each
// tells is what the chapter says.
func TestX1AllCalls(t *testing.T) {
	const most = 8
	for room := 1; room <= 4; room++ {
		for code := range 1 << (2 * most) {
			var calls string
			for rest := code; rest%4 != 0; rest /= 4 {
				calls += "?PTC"[rest%4 : rest%4+1]
			}
			if len(calls) < most {
				continue // longer ones begin with it
			}
			p := pairOf(t, room)
			for i, call := range calls {
				switch call {
				case 'P':
					p.put(t, words(room, calls), numbered(i+1))
				case 'T':
					p.take(t, words(room, calls))
				case 'C':
					p.close(t, words(room, calls))
				}
			}
		}
	}
}

// TestRuleP1ManyCalls: many calls with any messages, and all errors among what is told.
func TestRuleP1ManyCalls(t *testing.T) {
	r := rand.New(rand.NewSource(1))
	puts, takes := map[api.Errno]int{}, map[api.Errno]int{}
	for range 1000 {
		room := 1 + r.Intn(api.MaxBox)
		p := pairOf(t, room)
		name := words(room, "many calls")
		often := 1 + r.Intn(9)
		for range r.Intn(200) {
			switch {
			case r.Intn(100) == 0:
				p.close(t, name)
			case r.Intn(10) < often:
				puts[p.put(t, name, someMessage(r))]++
			default:
				takes[p.take(t, name)]++
			}
		}
	}
	for _, told := range []api.Errno{api.OK, api.ErrOrder, api.ErrFull} {
		if puts[told] < 1000 {
			t.Errorf("Put seldom told %v: %v", told, puts)
		}
	}
	for _, told := range []api.Errno{api.OK, api.ErrOrder, api.ErrNone} {
		if takes[told] < 1000 {
			t.Errorf("Take seldom told %v: %v", told, takes)
		}
	}
	if len(puts) != 3 || len(takes) != 3 {
		t.Errorf("something else was told: %v, %v", puts, takes)
	}
}
