package crew

import (
	"fmt"
	"math/rand"
	"runtime"
	"testing"

	"galley/api"
	"galley/batch"
)

// alone is a stage whose channels are the test's.
type alone struct {
	*stage
	there, onward, back, home chan api.Message
}

func aloneOf(layers []api.Layer, acts []api.Act, room int) alone {
	l := channels(4, room)
	return alone{newStage(layers, acts, way{l[0], l[1]}, way{l[2], l[3]}), l[0], l[1], l[2], l[3]}
}

func message(kind, part int, body api.Matrix) api.Message {
	return api.Message{Kind: kind, Micro: part, Body: body}
}

// TestR1StageDoesItsActsInOrder: whatever the order in which parts come to it,
// a stage hands them on in that of its own acts, each as soon as it can, and at
// the end keeps nothing but its sums.
func TestR1StageDoesItsActsInOrder(t *testing.T) {
	const parts = 3
	layers := []api.Layer{scaleOf(512), shiftOf(1)}
	for _, own := range rightOrders(parts) {
		for _, there := range orders(wave(1, parts)[0][:parts]) {
			for _, back := range orders(wave(1, parts)[0][parts:]) {
				s := aloneOf(layers, own, parts)
				for _, act := range there {
					s.there <- message(api.Forward, act.Micro, column(100*act.Micro))
				}
				for _, act := range back {
					s.back <- message(api.Backward, act.Micro, column(256+act.Micro))
				}
				name := fmt.Sprint(own, there, back)
				inTime(t, name, s.work)
				mustHandOn(t, name, own, s)
				if len(s.early) != 0 || len(s.saw) != 0 || s.err != nil {
					t.Fatalf("%s: there is left %v, %v, %v", name, s.early, s.saw, s.err)
				}
				// 0, 100 and 200 times 256, 257 and 258, and what came back.
				want := []api.Grad{{W: of(1, 1, 0+100+201)}, {B: of(1, 1, 256+257+258)}}
				if fmt.Sprint(s.sum) != fmt.Sprint(want) {
					t.Fatalf("%s: the sums are %v, want %v", name, s.sum, want)
				}
			}
		}
	}
}

func mustHandOn(t *testing.T, name string, own []api.Act, s alone) {
	t.Helper()
	for _, act := range own {
		out, want := s.onward, message(act.Kind, act.Micro, column(200*act.Micro+1))
		if act.Kind == api.Backward {
			out, want = s.home, message(act.Kind, act.Micro, column(512+2*act.Micro))
		}
		if len(out) == 0 {
			t.Fatalf("%s: nothing was handed on for %v", name, act)
		}
		if m := <-out; fmt.Sprint(m) != fmt.Sprint(want) {
			t.Fatalf("%s: %v was handed on, want %v", name, m, want)
		}
	}
}

// TestR1StageGathersInOrder: that of its Backwards, not that in which they come.
func TestR1StageGathersInOrder(t *testing.T) {
	for _, own := range rightOrders(3) {
		for _, back := range orders(wave(1, 3)[0][3:]) {
			s := aloneOf([]api.Layer{shiftOf(0)}, own, 3)
			cells := []int{-top, top, top}
			for part := range 3 {
				s.there <- message(api.Forward, part, column(0))
			}
			for _, act := range back {
				s.back <- message(api.Backward, act.Micro, column(cells[act.Micro]))
			}
			inTime(t, fmt.Sprint(own), s.work)
			want := 0
			for _, act := range own {
				if act.Kind == api.Backward {
					want = min(want+cells[act.Micro], top)
				}
			}
			if got := s.sum[0].B.Cells[0]; got != want {
				t.Errorf("%v, as %v came: the sum is %d, want %d", own, back, got, want)
			}
		}
	}
}

// TestR1StageHandsOnAtOnce: what comes of a part is handed on as soon as its act
// is done, while the stage goes on, or waits.
func TestR1StageHandsOnAtOnce(t *testing.T) {
	s := aloneOf([]api.Layer{scaleOf(256)}, read("F0 F1 B0 B1")[0], 2)
	done := make(chan struct{})
	go func() {
		defer close(done)
		s.work()
	}()
	inTime(t, "a stage", func() {
		s.there <- message(api.Forward, 0, column(7))
		if m := <-s.onward; m.Micro != 0 {
			t.Errorf("first came %v", m)
		}
		s.back <- message(api.Backward, 0, column(9))
		s.there <- message(api.Forward, 1, column(8))
		<-s.onward
		if m := <-s.home; m.Micro != 0 {
			t.Errorf("first went back %v", m)
		}
		s.back <- message(api.Backward, 1, column(9))
		<-s.home
		<-done
	})
}

// TestR3StagesStartInAnyOrder: whichever stage comes late, and be it that all
// others wait for it, it comes out the same.
func TestR3StagesStartInAnyOrder(t *testing.T) {
	r := rand.New(rand.NewSource(9))
	for _, p := range planners(r) {
		a := someAsked(r, 6, 3, 4, p.plan)
		l, err := batch.Split(a.b, a.parts)
		if err != nil {
			t.Fatal(err)
		}
		by, off, err := row(a.s.Net, l, a.ends, a.plan)
		want := fmt.Sprint(by, off, err)
		for _, order := range [][]int{{0, 1, 2}, {0, 2, 1}, {1, 0, 2}, {1, 2, 0}, {2, 0, 1}, {2, 1, 0}} {
			if got := rowInOrder(a, l, order); got != want {
				t.Errorf("%s, %v: %s\nwant\n%s", p.name, order, got, want)
			}
		}
	}
}

// rowInOrder is row, but each stage begins only when those ahead of it in order
// were left some time to come as far as they can.
func rowInOrder(a asked, l []api.Batch, order []int) string {
	there, back := channels(len(a.ends)+1, len(l)), channels(len(a.ends)+1, len(l))
	stages := manned(a.s.Net, a.ends, a.plan, there, back)
	handIn(l, there[0])
	done := make(chan int)
	for _, i := range order {
		begun := make(chan struct{})
		go func() {
			close(begun)
			stages[i].work()
			done <- i
		}()
		<-begun
		rest()
	}
	off, err := turnRound(l, way{there[len(a.ends)], back[len(a.ends)]})
	for range order {
		<-done
	}
	if err != nil {
		return err.Error()
	}
	by, err := gathered(stages)
	return fmt.Sprint(by, off, err)
}

// TestRuleP1FailingActs: where an act fails, which no call that was checked comes
// to, all stages end all the same, and something is told, and nothing beside it.
func TestRuleP1FailingActs(t *testing.T) {
	right := []api.Layer{scaleOf(256), reluOf(), shiftOf(1, 2)}
	narrow := linearOf(full(2, 2, 1), full(1, 2, 1))
	wide := linearOf(full(3, 2, 1), full(1, 2, 1))
	few, high := batchOf(full(2, 2, 1), full(2, 2, 1)), batchOf(full(13, 2, 1), full(13, 2, 1))
	before := runtime.NumGoroutine()
	for _, c := range []struct {
		name  string
		n     []api.Layer
		b     api.Batch
		fails bool
	}{
		{"none", right, few, false},
		{"the first stage, there", []api.Layer{wide, right[1], right[2]}, few, true},
		{"a stage between, there", []api.Layer{right[0], wide, right[2]}, few, true},
		{"the last stage, there", []api.Layer{right[0], right[1], wide}, few, true},
		{"how far it is off", right, batchOf(full(2, 2, 1), full(2, 3, 1)), true},
		{"the last stage, back", []api.Layer{right[0], right[1], narrow}, high, true},
		{"a stage between, back", []api.Layer{right[0], narrow, right[2]}, high, true},
		{"the first stage, back", []api.Layer{narrow, right[1], right[2]}, high, true},
	} {
		for _, acts := range [][][]api.Act{wave(3, 3), turns(3, 3), read("F2 F0 F1 B0 B1 B2", "F0 F1 F2 B0 B1 B2", "F0 B0 F2 F1 B1 B2")} {
			inTime(t, c.name, func() {
				by, off, err := row(c.n, []api.Batch{few, c.b, few}, []int{1, 2, 3}, acts)
				if c.fails != (err != nil) || c.fails && (by != nil || off != 0) {
					t.Errorf("%s: row = %v, %d, %v", c.name, by, off, err)
				}
			})
		}
	}
	mustEnd(t, "failing acts", before)
}
