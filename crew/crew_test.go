package crew

import (
	"fmt"
	"math/rand"
	"slices"
	"testing"

	"galley/api"
	"galley/plan"
	"galley/train"
)

// TestR1ByHand: three layers, one for each stage, with numbers reckoned by hand.
func TestR1ByHand(t *testing.T) {
	a := asked{
		s:     train.Begin([]api.Layer{scaleOf(512), reluOf(), shiftOf(-256)}),
		b:     batchOf(column(256), column(0)),
		ends:  []int{1, 2, 3},
		plan:  read("F0 B0", "F0 B0", "F0 B0"),
		parts: 1,
		r:     api.Rates{Learn: 256},
	}
	want := answer(train.State{
		Net:   []api.Layer{scaleOf(256), reluOf(), shiftOf(-512)},
		Speed: []api.Grad{{W: of(1, 1, 256)}, {}, {B: of(1, 1, 256)}},
		Steps: 1,
	}, 128, nil)
	for _, ends := range everyEnds(3) {
		a.ends, a.plan = ends, wave(len(ends), 1)
		if got := a.one(); got != want {
			t.Errorf("%v: One =\n%s\nwant\n%s", ends, got, want)
		}
	}
	second := answer(train.State{
		Net:   []api.Layer{scaleOf(512), reluOf(), shiftOf(-256)},
		Speed: []api.Grad{{W: of(1, 1, -256)}, {}, {B: of(1, 1, -256)}},
		Steps: 2,
	}, []int{128, 128}, nil)
	if got := a.all(a.b, a.b); got != second {
		t.Errorf("All =\n%s\nwant\n%s", got, second)
	}
}

// TestR1GathersInOrder: where sums come to their end, it is to be seen in which
// order the parts were gathered; by hand, in two stages.
func TestR1GathersInOrder(t *testing.T) {
	for _, c := range []struct {
		in       api.Matrix
		sum, off int
	}{
		{column(top, top, -top), 0, top},
		{column(-top, top, top), top, top},
		{column(top, -top, -top), -top, top},
		{column(top, 1, -1), top - 1, 1073741823},
		{column(1, -1, top), top, 1073741823},
	} {
		for _, p := range planners(rand.New(rand.NewSource(1))) {
			a := asked{train.Begin([]api.Layer{shiftOf(0), shiftOf(0)}), batchOf(c.in, column(0, 0, 0)),
				[]int{1, 2}, p.plan(2, 3), 3, api.Rates{Learn: 256}}
			turned, by := shiftOf(-c.sum), api.Grad{B: of(1, 1, c.sum)}
			want := answer(train.State{Net: []api.Layer{turned, turned}, Speed: []api.Grad{by, by}, Steps: 1}, c.off, nil)
			if got := a.one(); got != want {
				t.Errorf("%v %s, %v: One =\n%s\nwant\n%s", c.in, p.name, a.plan, got, want)
			}
			a.must(t, p.name)
		}
	}
}

// TestR1HowManyStages: from one to as many as layers, with one part and with as
// many as may be, by every sort of plan.
func TestR1HowManyStages(t *testing.T) {
	r := rand.New(rand.NewSource(2))
	for layers := 1; layers <= api.MaxLayers; layers++ {
		for stages := 1; stages <= min(layers, api.MaxStages); stages++ {
			for _, parts := range []int{1, 2, 5, api.MaxMicros} {
				for _, p := range planners(r) {
					someAsked(r, layers, stages, parts, p.plan).must(t, p.name)
				}
			}
		}
	}
}

// TestR1EveryCut: it does not matter how the layers are cut.
func TestR1EveryCut(t *testing.T) {
	r := rand.New(rand.NewSource(3))
	for layers := 1; layers <= 7; layers++ {
		for _, p := range planners(r) {
			a := someAsked(r, layers, 1, 4, p.plan)
			want := a.oneByOne()
			for _, ends := range everyEnds(layers) {
				a.ends, a.plan = ends, p.plan(len(ends), 4)
				if got := a.one(); got != want {
					t.Errorf("%s, %v: One(%v) =\n%s\nwant\n%s", p.name, ends, a, got, want)
				}
			}
		}
	}
}

// orders has all orders of some acts.
func orders(acts []api.Act) [][]api.Act {
	if len(acts) == 0 {
		return [][]api.Act{nil}
	}
	var all [][]api.Act
	for i, first := range acts {
		rest := slices.Delete(slices.Clone(acts), i, i+1)
		for _, order := range orders(rest) {
			all = append(all, append([]api.Act{first}, order...))
		}
	}
	return all
}

// rightOrders has all that one stage alone can do.
func rightOrders(parts int) [][]api.Act {
	return slices.DeleteFunc(orders(wave(1, parts)[0]), func(acts []api.Act) bool {
		return plan.Check([][]api.Act{acts}, parts) != nil
	})
}

func plansOf(stages int, choices [][]api.Act) [][][]api.Act {
	all := [][][]api.Act{nil}
	for range stages {
		var longer [][][]api.Act
		for _, acts := range all {
			for _, own := range choices {
				longer = append(longer, append(slices.Clone(acts), own))
			}
		}
		all = longer
	}
	return all
}

// TestR1EveryPlan: of all plans of few stages and parts those that are even
// and can be done make the same, and all others are refused.
func TestR1EveryPlan(t *testing.T) {
	r := rand.New(rand.NewSource(4))
	for _, size := range [][2]int{{1, 1}, {1, 3}, {2, 2}, {2, 3}, {3, 2}} {
		stages, parts := size[0], size[1]
		a := someAsked(r, 5, stages, parts, wave)
		want := a.oneByOne()
		count := map[api.Errno]int{}
		for _, acts := range plansOf(stages, rightOrders(parts)) {
			a.plan = acts
			told := toldOf(a)
			count[told]++
			if told != api.OK {
				a.refuse(t, "a plan", told)
			} else if got := a.one(); got != want {
				t.Errorf("One(%v) =\n%s\nwant\n%s", a, got, want)
			}
		}
		if stages > 1 && (count[api.OK] < 5 || count[api.ErrOrder] < 5 || count[api.ErrStuck] < 5) {
			t.Errorf("%d stages, %d parts: few plans of a sort: %v", stages, parts, count)
		}
	}
}

// TestR1OtherOrders: the stages take the parts in orders of their own, so that
// what comes to them comes too early.
func TestR1OtherOrders(t *testing.T) {
	r := rand.New(rand.NewSource(5))
	for _, acts := range [][][]api.Act{
		read("F2 F1 F0 B0 B1 B2", "F0 F1 F2 B0 B1 B2"),
		read("F0 F1 F2 B0 B1 B2", "F2 F1 F0 B0 B1 B2"),
		read("F2 F0 F1 B0 B1 B2", "F0 B0 F2 F1 B1 B2", "F0 B0 F1 F2 B1 B2"),
		read("F2 F1 F0 B0 B1 B2", "F1 F2 F0 B0 B1 B2", "F0 F2 F1 B0 B1 B2", "F0 B0 F1 B1 F2 B2"),
		read("F1 F2 F0 B0 B1 B2", "F2 F1 F0 B0 B1 B2", "F0 F1 F2 B0 B1 B2", "F2 F0 F1 B0 B1 B2", "F1 F0 B0 F2 B1 B2", "F0 B0 F2 F1 B1 B2"),
	} {
		for range 20 {
			a := someAsked(r, 6, len(acts), 3, func(int, int) [][]api.Act { return acts })
			a.must(t, fmt.Sprint(acts))
		}
	}
	forward := func(from, step int) []api.Act {
		var l []api.Act
		for i := range api.MaxMicros {
			l = append(l, api.Act{Kind: api.Forward, Micro: from + step*i})
		}
		return l
	}
	back := wave(1, api.MaxMicros)[0][api.MaxMicros:]
	up, down := slices.Concat(forward(0, 1), back), slices.Concat(forward(api.MaxMicros-1, -1), back)
	acts := [][]api.Act{down, up, down, up, down, up}
	a := someAsked(r, api.MaxLayers, api.MaxStages, api.MaxMicros, func(int, int) [][]api.Act { return acts })
	inTime(t, "as many stages and parts as may be", func() { a.must(t, "up and down") })
}

// TestR1AtTheEnds: all cells are at the ends, so all sums come there.
func TestR1AtTheEnds(t *testing.T) {
	r := rand.New(rand.NewSource(6))
	for _, x := range []int{-top, top} {
		for _, y := range []int{-top, top} {
			n := []api.Layer{linearOf(full(12, 12, x), full(1, 12, y)), scaleOf(y), shiftOf(slices.Repeat([]int{x}, 12)...), reluOf()}
			n = slices.Repeat(n, 3)
			s := train.State{Net: n}
			for _, l := range n {
				s.Speed = append(s.Speed, api.Grad{W: full(l.W.Rows, l.W.Cols, y), B: full(l.B.Rows, l.B.Cols, x)})
			}
			for _, parts := range []int{2, 5, 12} {
				for _, p := range planners(r) {
					asked{s, batchOf(full(24, 12, x), full(24, 12, y)), []int{1, 4, 5, 8, 11, 12}, p.plan(6, parts), parts, api.Rates{Learn: 256, Keep: 256}}.must(t, p.name)
				}
			}
		}
	}
}

// TestR1Edges: what train's One takes, this one takes.
func TestR1Edges(t *testing.T) {
	a := small()
	a.s.Steps = 1e9
	if got, want := a.one(), a.oneByOne(); got != want {
		t.Errorf("10^9 Steps: One =\n%s\nwant\n%s", got, want)
	}
	for _, learn := range []int{0, 1, 256} {
		for _, keep := range []int{0, 1, 256} {
			a := small()
			a.r = api.Rates{Learn: learn, Keep: keep}
			a.must(t, "rates")
		}
	}
	for _, rows := range []int{1, 12} {
		a := small()
		a.b, a.parts, a.plan = batchOf(full(rows, 2, 99), full(rows, 3, 1)), 1, wave(2, 1)
		a.must(t, "one part")
	}
	a = asked{train.Begin([]api.Layer{reluOf(), scaleOf(300)}), batchOf(of(3, 0), of(3, 0)), []int{1, 2}, turns(2, 3), 3, api.Rates{Learn: 9}}
	a.must(t, "no columns")
}
