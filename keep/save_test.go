package keep

import (
	"fmt"
	"math"
	"math/rand"
	"slices"
	"testing"

	"galley/api"
	"galley/plain"
	"galley/train"
)

// TestS1Bytes: bytes that were counted by hand.
func TestS1Bytes(t *testing.T) {
	one := of(1, 1, 1)
	cases := []struct {
		name  string
		state train.State
		bytes []byte
	}{
		{"nothing", train.State{}, bytesOf(71, 1, 0, 0, 72, 32)},
		{"empty lists", stateOf([]api.Layer{}, []api.Grad{}, 0), bytesOf(71, 1, 0, 0, 72, 32)},
		{"Steps alone", train.State{Steps: 300}, bytesOf(71, 1, 172, 2, 0, 246, 114)},
		{"as many Steps as may be", train.State{Steps: 1e9}, bytesOf(71, 1, 128, 148, 235, 220, 3, 0, 41, 119)},
		{"Relu", stateOf(netOf(reluOf()), gradsOf(api.Grad{}), 5),
			bytesOf(71, 1, 5, 1, 2, 0, 0, 0, 0, 0, 0, 0, 0, 80, 253)},
		{"Scale", train.Begin(netOf(scaleOf(-3))),
			bytesOf(71, 1, 0, 1, 3, 1, 1, 5, 0, 0, 1, 1, 0, 0, 0, 85, 172)},
		{"Shift", stateOf(netOf(shiftOf(64, -65)), gradsOf(api.Grad{B: of(1, 2, 0, 1)}), 0),
			bytesOf(71, 1, 0, 1, 4, 0, 0, 1, 2, 128, 1, 129, 1, 0, 0, 1, 2, 0, 2, 89, 247)},
		{"Linear", stateOf(netOf(linearOf(of(1, 1, 2), of(1, 1, -2))), gradsOf(api.Grad{W: of(1, 1, 7), B: of(1, 1, -8)}), 1),
			bytesOf(71, 1, 1, 1, 1, 1, 1, 4, 1, 1, 3, 1, 1, 14, 1, 1, 15, 119, 178)},
		{"two layers", stateOf(netOf(reluOf(), api.Layer{Kind: api.Scale, W: one}), gradsOf(api.Grad{}, api.Grad{W: one}), 0),
			bytesOf(71, 1, 0, 2, 2, 0, 0, 0, 0, 0, 0, 0, 0, 3, 1, 1, 2, 0, 0, 1, 1, 2, 0, 0, 87, 107)},
	}
	for _, c := range cases {
		mustBoth(t, c.name, c.state, c.bytes)
		if got := slowSave(c.state); !slices.Equal(got, c.bytes) {
			t.Errorf("%s: the tests' own bytes are %v, want %v", c.name, got, c.bytes)
		}
	}
}

// TestS1EachState: no layer, one of each Kind, and up to as many as may be.
func TestS1EachState(t *testing.T) {
	for i, s := range right() {
		if err := train.Check(s); err != nil {
			t.Fatalf("state %d of the tests is wrong: %v", i, err)
		}
		mustBoth(t, fmt.Sprint("state ", i), s, slowSave(s))
	}
}

func TestS1Steps(t *testing.T) {
	list := []int{0, 1, 2, 999999998, 999999999, 1000000000}
	for bits := 1; bits < 30; bits++ {
		list = append(list, 1<<bits-1, 1<<bits, 1<<bits+1)
	}
	for _, steps := range list {
		mustBoth(t, "no layers", train.State{Steps: steps}, summed(bytesOf(71, 1), slowNumber(uint64(steps)), bytesOf(0)))
		s := small()
		s.Steps = steps
		mustBoth(t, "each Kind", s, slowSave(s))
	}
}

// TestS1Cells: at both ends and below 0, wherever a cell may stand.
func TestS1Cells(t *testing.T) {
	for i := range small().Net {
		for place, a := range matricesOf(small(), i) {
			for cell := range a.Cells {
				for _, x := range edges() {
					s := small()
					matricesOf(s, i)[place].Cells[cell] = x
					mustBoth(t, fmt.Sprintf("layer %d, matrix %d, cell %d", i, place, cell), s, slowSave(s))
				}
			}
		}
	}
}

// TestS1Sizes: a Linear and a Shift of every size.
func TestS1Sizes(t *testing.T) {
	r := rand.New(rand.NewSource(2))
	for rows := 1; rows <= api.MaxSide; rows++ {
		for cols := 1; cols <= api.MaxSide; cols++ {
			s := stateOf(
				netOf(linearOf(some(r, rows, cols), some(r, 1, cols)), shiftOf(some(r, 1, cols).Cells...)),
				gradsOf(api.Grad{W: some(r, rows, cols), B: some(r, 1, cols)}, api.Grad{B: some(r, 1, cols)}), rows*cols)
			mustBoth(t, fmt.Sprint(rows, " rows, ", cols, " columns"), s, slowSave(s))
		}
	}
}

// TestS1ColumnsNeedNotGoTogether: train's Check does not ask it, and so it is kept.
func TestS1ColumnsNeedNotGoTogether(t *testing.T) {
	s := train.Begin(netOf(shiftOf(1), shiftOf(2, 3), linearOf(full(5, 4, 9), full(1, 4, 8))))
	mustBoth(t, "columns", s, slowSave(s))
}

// TestS1Sums: where a sum comes to 255, it is 0.
func TestS1Sums(t *testing.T) {
	zeros := map[int]int{}
	for steps := range 70000 {
		b, err := Save(train.State{Steps: steps})
		if err != nil || !slices.Equal(b, slowSave(train.State{Steps: steps})) {
			t.Fatalf("%d Steps: %v, %v", steps, b, err)
		}
		for place, x := range b[len(b)-2:] {
			if x == 255 {
				t.Fatalf("%d Steps: %v", steps, b)
			}
			if x == 0 {
				zeros[place]++
			}
		}
	}
	if zeros[0] < 10 || zeros[1] < 10 {
		t.Errorf("sums were seldom 0: %v", zeros)
	}
}

// TestS1NoStateIsTooGreat: of so few layers none comes to MaxBytes.
func TestS1NoStateIsTooGreat(t *testing.T) {
	s := greatest()
	b, err := Save(s)
	if err != nil || len(b) != 2+5+1+12*(1+2*(2+144*5+2+12*5))+2 || len(b) > api.MaxBytes {
		t.Errorf("the greatest state has %d bytes, %v", len(b), err)
	}
	mustBoth(t, "the greatest", s, slowSave(s))
}

// TestS1Full: so it is asked of bytes alone.
func TestS1Full(t *testing.T) {
	for _, long := range []int{0, 1, api.MaxBytes - 1, api.MaxBytes} {
		b := slices.Repeat(bytesOf(5), long)
		if got, err := bounded(b); err != nil || !slices.Equal(got, b) {
			t.Errorf("%d bytes: %d and %v are told", long, len(got), err)
		}
	}
	for _, long := range []int{api.MaxBytes + 1, api.MaxBytes + 2, 2 * api.MaxBytes} {
		if got, err := bounded(make([]byte, long)); len(got) != 0 || plain.Told(err) != api.ErrFull {
			t.Errorf("%d bytes: %d and %v are told, want none and ErrFull", long, len(got), err)
		}
	}
}

// fault is one thing that is wrong with small; what has the lower rank is told first.
type fault struct {
	name  string
	spoil func(s *train.State)
	told  api.Errno
	rank  int
}

// wholeFaults are told ahead of all layers.
func wholeFaults() []fault {
	list := []fault{
		{"13 layers", func(s *train.State) { s.Net = append(s.Net, slices.Repeat(netOf(reluOf()), 9)...) }, api.ErrFull, 0},
		{"1000 layers, wrong ones", func(s *train.State) { s.Net = append(s.Net, make([]api.Layer, 996)...) }, api.ErrFull, 0},
		{"a speed too few", func(s *train.State) { s.Speed = s.Speed[:3] }, api.ErrShape, 1},
		{"a speed too many", func(s *train.State) { s.Speed = append(s.Speed, api.Grad{}) }, api.ErrShape, 1},
	}
	for _, steps := range []int{-1, -300, math.MinInt, 1e9 + 1, 1 << 32, 1 << 62, math.MaxInt} {
		list = append(list, fault{fmt.Sprint(steps, " Steps"), func(s *train.State) { s.Steps = steps }, api.ErrRange, 2})
	}
	return list
}

// wrong has matrices that are wrong of themselves.
func wrong() map[api.Errno][]api.Matrix {
	return map[api.Errno][]api.Matrix{
		api.ErrRange: {of(25, 0), of(0, 13), of(-1, -1, 5), of(math.MinInt, 2), of(1<<32, 1<<32), of(1, 1, top+1), of(1, 2, 0, -top-1), of(1, 1, math.MinInt)},
		api.ErrShape: {of(1, 1), of(0, 0, 1), of(2, 3, 1, 2, 3, 4, 5), of(2, 3, 1, 2, 3, 4, 5, 6, 7)},
	}
}

// layerFaults are of the layer i, and of its speed.
func layerFaults(i int) []fault {
	rank := 10 + 10*i
	var list []fault
	for _, kind := range []int{0, 5, -1, math.MaxInt} {
		list = append(list, fault{fmt.Sprint("layer ", i, " of Kind ", kind), func(s *train.State) { s.Net[i].Kind = kind }, api.ErrRange, rank})
	}
	matrixIs := func(place int, a api.Matrix, told api.Errno, rank int) {
		name := fmt.Sprintf("layer %d, matrix %d is %v", i, place, a)
		list = append(list, fault{name, func(s *train.State) { *matricesOf(*s, i)[place] = a }, told, rank})
	}
	for place, after := range []int{1, 2, 4, 5} {
		for _, told := range []api.Errno{api.ErrRange, api.ErrShape} {
			for _, a := range wrong()[told] {
				matrixIs(place, a, told, rank+after)
			}
		}
	}
	matrixIs(0, full(7, 1, 0), api.ErrShape, rank+3)
	matrixIs(2, full(5, 5, 1), api.ErrShape, rank+6)
	matrixIs(3, full(5, 5, 1), api.ErrShape, rank+6)
	return list
}

func everyFault() []fault {
	list := wholeFaults()
	for i := range small().Net {
		list = append(list, layerFaults(i)...)
	}
	return list
}

func TestS1Refuses(t *testing.T) {
	for _, f := range everyFault() {
		s := small()
		f.spoil(&s)
		refuseSave(t, f.name, s, f.told)
	}
	refuseSave(t, "a speed, and no layer", train.State{Speed: gradsOf(api.Grad{})}, api.ErrShape)
	refuseSave(t, "a layer, and no speed", train.State{Net: netOf(reluOf())}, api.ErrShape)
	refuseSave(t, "13 layers and no speeds", train.State{Net: make([]api.Layer, 13)}, api.ErrFull)
	refuseSave(t, "no layers, Steps below 0", train.State{Steps: -1}, api.ErrRange)
	refuseSave(t, "no layers, Steps above", train.State{Steps: 1e9 + 1}, api.ErrRange)
}

// TestS1WhatIsToldFirst: of two things that are wrong it is the one that train's Check names first.
func TestS1WhatIsToldFirst(t *testing.T) {
	for _, first := range everyFault() {
		for _, second := range everyFault() {
			if first.rank >= second.rank {
				continue
			}
			s := small()
			second.spoil(&s)
			first.spoil(&s)
			refuseSave(t, first.name+", "+second.name, s, first.told)
		}
	}
}

// TestS1FaultsByChance: whatever of it is wrong at once, it is what train's Check says.
func TestS1FaultsByChance(t *testing.T) {
	r := rand.New(rand.NewSource(3))
	all := everyFault()
	tolds := map[api.Errno]int{}
	for range 20000 {
		s := small()
		for range r.Intn(4) {
			// Where there are fewer speeds, there is no place for what else may be wrong.
			if len(s.Speed) >= 4 {
				all[r.Intn(len(all))].spoil(&s)
			}
		}
		told := plain.Told(train.Check(s))
		tolds[told]++
		if told == api.OK {
			mustBoth(t, "by chance", s, slowSave(s))
			continue
		}
		refuseSave(t, "by chance", s, told)
	}
	for _, told := range []api.Errno{api.OK, api.ErrRange, api.ErrShape, api.ErrFull} {
		if tolds[told] < 100 {
			t.Errorf("%v was seldom told: %v", told, tolds)
		}
	}
}
