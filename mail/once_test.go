package mail

import (
	"runtime"
	"slices"
	"sync"
	"sync/atomic"
	"testing"

	"galley/api"
	"galley/plain"
)

// TestRuleP1AtOnce: where many put in and take out at once, each message comes
// out once, and nobody's messages pass one another.
func TestRuleP1AtOnce(t *testing.T) {
	const hands, each = 4, 500
	for _, room := range []int{1, 3, api.MaxBox} {
		b := box(t, room)
		var puts, takes sync.WaitGroup
		taken := make([][]int, hands)
		for hand := range hands {
			puts.Go(func() { putAll(t, b, hand*each, each) })
			takes.Go(func() { taken[hand] = takeAll(t, b) })
		}
		inTime(t, "putting and taking at once", func() {
			puts.Wait()
			b.Close()
			takes.Wait()
		})
		for _, list := range taken {
			for hand := range hands {
				own := slices.DeleteFunc(slices.Clone(list), func(x int) bool { return x/each != hand })
				if !slices.IsSorted(own) {
					t.Errorf("out of their order: %v", own)
				}
			}
		}
		whole := slices.Sorted(slices.Values(slices.Concat(taken...)))
		if len(whole) != hands*each || len(slices.Compact(whole)) != hands*each {
			t.Errorf("room for %d: %d came out of %d", room, len(whole), hands*each)
		}
	}
}

// putAll puts so many messages in, each as soon as there is room.
func putAll(t *testing.T, b *Box, from, count int) {
	for x := from; x < from+count; {
		switch told := plain.Told(b.Put(message(1, 0, 1, 1, x))); told {
		case api.OK:
			x++
		case api.ErrFull:
			runtime.Gosched()
		default:
			t.Errorf("Put told %v", told)
			return
		}
	}
}

// takeAll takes what there is until the box is closed and empty.
func takeAll(t *testing.T, b *Box) []int {
	var list []int
	for {
		m, err := b.Take()
		switch told := plain.Told(err); told {
		case api.OK:
			list = append(list, m.Body.Cells...)
		case api.ErrNone:
			runtime.Gosched()
		case api.ErrOrder:
			return list
		default:
			t.Errorf("Take told %v", told)
			return list
		}
	}
}

// TestRuleP1CloseAtOnce: where some close a box while others put in, none
// panics, and just what was put in without an error comes out.
func TestRuleP1CloseAtOnce(t *testing.T) {
	for range 20000 {
		b := box(t, api.MaxBox)
		var ready atomic.Int32
		var all sync.WaitGroup
		counts := make([]int, 4)
		for hand := range counts {
			all.Go(func() {
				meet(&ready, 8)
				counts[hand] = putUntilClosed(t, b)
			})
			all.Go(func() {
				meet(&ready, 8)
				b.Close()
			})
		}
		inTime(t, "putting and closing at once", all.Wait)
		sum := 0
		for _, count := range counts {
			sum += count
		}
		mustLen(t, b, sum)
		for range sum {
			mustTake(t, b, numbered(1))
		}
		refuseTake(t, b, api.ErrOrder)
	}
}

// meet lets so many go on at the same time, as near as may be.
func meet(ready *atomic.Int32, hands int32) {
	ready.Add(1)
	for ready.Load() < hands {
		runtime.Gosched()
	}
}

// putUntilClosed tells how many were put in.
func putUntilClosed(t *testing.T, b *Box) int {
	count := 0
	for {
		switch told := plain.Told(b.Put(numbered(1))); told {
		case api.OK:
			count++
		case api.ErrFull:
		case api.ErrOrder:
			return count
		default:
			t.Errorf("Put told %v", told)
			return count
		}
	}
}
