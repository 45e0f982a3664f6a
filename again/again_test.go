package again

import (
	"fmt"
	"math/rand"
	"slices"
	"testing"

	"galley/api"
	"galley/loss"
	"galley/net"
)

func TestA1TheChaptersExample(t *testing.T) {
	one := of(1, 1, 256)
	a := asked{netOf(reluOf(), reluOf(), scaleOf(512)), one, one, 2}
	a.tells(t, "two groups", []api.Grad{{}, {}, {W: of(1, 1, 256)}}, 128, 3)
}

func TestA1ByHand(t *testing.T) {
	grads := []api.Grad{
		{W: of(2, 3, 5, -5, 10, 10, -10, 20), B: of(1, 3, 129, -126, 256)}, {},
		{W: of(1, 1, -24)}, {B: of(1, 3, 258, -252, 518)},
	}
	for i, kept := range []int{5, 4, 4, 5, 5, 5, 5, 5, 5, 5, 5, 5} {
		a := small()
		a.every = i + 1
		a.tells(t, "each Kind", grads, 768, kept)
	}

	// 1 goes to 2, 4 and 8, and is off by 8; a Scale's Grad is what came times what goes back.
	doubled := asked{netOf(scaleOf(512), scaleOf(512), scaleOf(512)), of(1, 1, 256), of(1, 1, 0), 1}
	grads = []api.Grad{{W: of(1, 1, 32*256)}, {W: of(1, 1, 32*256)}, {W: of(1, 1, 32*256)}}
	for i, kept := range []int{4, 3, 4, 4} {
		doubled.every = i + 1
		doubled.tells(t, "three Scales", grads, 32*256, kept)
	}

	// What is below 0 ahead of the Relu comes to nothing, and nothing goes back of it.
	cut := asked{netOf(shiftOf(-300), reluOf(), shiftOf(5)), of(3, 1, 256, 300, 556), of(3, 1, 0, 0, 5), 2}
	cut.tells(t, "a Relu between", []api.Grad{{B: of(1, 1, 256)}, {}, {B: of(1, 1, 5+5+256)}}, 128, 3)
}

// TestA1NoLayers: what goes in is what comes; that is kept, and nothing goes back.
func TestA1NoLayers(t *testing.T) {
	for every := 1; every <= api.MaxLayers; every++ {
		for _, n := range [][]api.Layer{nil, {}} {
			asked{n, of(1, 2, 512, 0), of(1, 2, 256, 256), every}.tells(t, "no layers", nil, 256, 1)
			asked{n, of(2, 1, 7, -7), of(2, 1, 7, -7), every}.tells(t, "no layers, as wanted", nil, 0, 1)
			asked{n, full(24, 12, top), full(24, 12, -top), every}.tells(t, "no layers, greatest", nil, 1<<30-1, 1)
			asked{n, of(24, 0), of(24, 0), every}.tells(t, "no layers, no columns", nil, 0, 1)
			asked{n: n, every: every}.tells(t, "no layers, empty", nil, 0, 1)
		}
	}
}

// TestA1OneLayer: x and what comes of it are kept, whatever every is.
func TestA1OneLayer(t *testing.T) {
	line := linearOf(of(1, 2, 512, -256), of(1, 2, 1, 2))
	for every := 1; every <= api.MaxLayers; every++ {
		asked{netOf(line), of(2, 1, 256, 512), of(2, 2, 513, -254, 769, -510), every}.tells(t, "Linear",
			[]api.Grad{{W: of(1, 2, 512, 0), B: of(1, 2, 256, 0)}}, 128, 2)
		asked{netOf(reluOf()), of(1, 2, -5, 512), of(1, 2, 256, 256), every}.tells(t, "Relu", []api.Grad{{}}, 256, 2)
		asked{netOf(scaleOf(-256)), of(1, 2, 256, 512), of(1, 2, 0, 0), every}.tells(t, "Scale",
			[]api.Grad{{W: of(1, 1, -256-1024)}}, 128*5, 2)
		asked{netOf(shiftOf(1, 2)), of(2, 2, 0, 0, 256, 0), of(2, 2, 1, 2, 1, 2), every}.tells(t, "Shift",
			[]api.Grad{{B: of(1, 2, 256, 0)}}, 128, 2)
	}
}

// TestA1EveryKind: nets of all sizes, with each Kind at each place, and all
// every: also where it does not divide how many layers there are, and where it
// is more than they are.
func TestA1EveryKind(t *testing.T) {
	r := rand.New(rand.NewSource(1))
	for layers, every := range everySize {
		for first := range 4 {
			for range 5 {
				words := someWords(r, first, layers)
				a := someAsked(r, r.Intn(api.MaxSide+1), 1+r.Intn(api.MaxSide), words, every)
				a.must(t, fmt.Sprint(words, ", every ", every))
			}
		}
	}
}

// TestA1RowsAndColumns: as many and as few of them as may be.
func TestA1RowsAndColumns(t *testing.T) {
	r := rand.New(rand.NewSource(2))
	for every := 1; every <= api.MaxLayers; every++ {
		for rows := range api.MaxRows + 1 {
			someAsked(r, rows, api.MaxSide, "S R C S R", every).must(t, fmt.Sprint(rows, " rows, no Linear"))
			someAsked(r, rows, 0, "R C C R R C R", every).must(t, fmt.Sprint(rows, " rows, no columns"))
			if rows <= api.MaxSide {
				someAsked(r, rows, 12, "L12 S L1 C L12", every).must(t, fmt.Sprint(rows, " rows"))
			}
		}
		someAsked(r, 12, 12, "L12 L12 L12 L12 L12 L12 L12 L12 L12 L12 L12 L12", every).must(t, "greatest")
	}
}

// TestA1NumbersAtTheirEnds: what came to its end on the way there comes to it
// again when it is reckoned again, and what goes back has ends of its own.
func TestA1NumbersAtTheirEnds(t *testing.T) {
	// x is doubled to the end, and what comes of all is at it, too; what is halved between is not.
	there := netOf(scaleOf(512), shiftOf(-1), scaleOf(128), shiftOf(top))
	grads := []api.Grad{{W: of(1, 1, top)}, {B: of(1, 1, 1<<30-1)}, {W: of(1, 1, top)}, {B: of(1, 1, top)}}
	for i, kept := range []int{5, 4, 4, 5} {
		asked{there, of(1, 1, top), of(1, 1, -top), i + 1}.tells(t, "there", grads, 1<<30-1, kept)
	}
	// What goes back, four times as much, comes to the end, of which then goes the fourth part.
	back := netOf(shiftOf(0), scaleOf(64), scaleOf(-1024))
	grads = []api.Grad{{B: of(1, 1, 1<<29-1)}, {W: of(1, 1, top)}, {W: of(1, 1, -top)}}
	for i, kept := range []int{4, 3, 4} {
		asked{back, of(1, 1, 1<<20), of(1, 1, 1<<30), i + 1}.tells(t, "back", grads, 1<<30-1, kept)
	}

	r := rand.New(rand.NewSource(3))
	for layers, every := range everySize {
		for _, m := range makers(r)[3:] {
			n, out := m.net(7, someWords(r, layers, layers))
			for _, cell := range []int{top, -top} {
				asked{n, full(12, 7, cell), full(12, out, cell), every}.must(t, "all at one end")
				asked{n, full(12, 7, cell), full(12, out, -cell), every}.must(t, "there one end, wanted the other")
				asked{n, full(12, 7, cell), m.matrix(12, out), every}.must(t, "x at an end")
			}
		}
	}
}

// TestA2Most has what the words say of every net and every, written out.
func TestA2Most(t *testing.T) {
	for layers, row := range [][]int{
		{1, 1, 1, 1, 1, 1, 1, 1, 1, 1, 1, 1},
		{2, 2, 2, 2, 2, 2, 2, 2, 2, 2, 2, 2},
		{3, 3, 3, 3, 3, 3, 3, 3, 3, 3, 3, 3},
		{4, 3, 4, 4, 4, 4, 4, 4, 4, 4, 4, 4},
		{5, 4, 4, 5, 5, 5, 5, 5, 5, 5, 5, 5},
		{6, 4, 4, 5, 6, 6, 6, 6, 6, 6, 6, 6},
		{7, 5, 5, 5, 6, 7, 7, 7, 7, 7, 7, 7},
		{8, 5, 5, 5, 6, 7, 8, 8, 8, 8, 8, 8},
		{9, 6, 5, 6, 6, 7, 8, 9, 9, 9, 9, 9},
		{10, 6, 6, 6, 6, 7, 8, 9, 10, 10, 10, 10},
		{11, 7, 6, 6, 7, 7, 8, 9, 10, 11, 11, 11},
		{12, 7, 6, 6, 7, 7, 8, 9, 10, 11, 12, 12},
		{13, 8, 7, 7, 7, 8, 8, 9, 10, 11, 12, 13},
	} {
		for i, want := range row {
			mustMost(t, layers, i+1, want, api.OK)
			if slow := mostSlowly(layers, i+1); slow != want {
				t.Errorf("counted place by place, of %d layers, every %d: %d, want %d", layers, i+1, slow, want)
			}
		}
	}
}

func TestA2MostIsWhatBackTells(t *testing.T) {
	r := rand.New(rand.NewSource(4))
	for layers, every := range everySize {
		a := someAsked(r, 3, 5, someWords(r, every, layers), every)
		_, _, kept, err := Back(a.n, a.x, a.want, every)
		if err != nil {
			t.Fatalf("Back(%v): %v", a, err)
		}
		mustMost(t, layers, every, kept, api.OK)
	}
}

func TestA2MostRefuses(t *testing.T) {
	for _, every := range beyond() {
		for layers := range api.MaxLayers + 1 {
			mustMost(t, layers, every, 0, api.ErrRange)
		}
	}
	for _, layers := range beyond()[1:] {
		for every := 1; every <= api.MaxLayers; every++ {
			mustMost(t, layers, every, 0, api.ErrRange)
		}
		for _, every := range beyond() {
			mustMost(t, layers, every, 0, api.ErrRange)
		}
	}
}

// TestA3GradsAreNetsOwn: to the last bit, whatever every is.
func TestA3GradsAreNetsOwn(t *testing.T) {
	r := rand.New(rand.NewSource(5))
	for layers := range api.MaxLayers + 1 {
		for first := range 4 {
			a := someAsked(r, 1+r.Intn(api.MaxSide), 1+r.Intn(api.MaxSide), someWords(r, first, layers), 1)
			want := netsOwn(t, a)
			for every := 1; every <= api.MaxLayers; every++ {
				got, _, _, err := Back(a.n, a.x, a.want, every)
				if fmt.Sprint(got) != fmt.Sprint(want) || err != nil {
					t.Errorf("Back(%v), every %d = %v, %v; want %v", a, every, got, err, want)
				}
			}
		}
	}
}

func netsOwn(t *testing.T, a asked) []api.Grad {
	t.Helper()
	saw, err := net.Go(a.n, a.x)
	if err != nil {
		t.Fatal(err)
	}
	g, err := loss.Back(saw[len(a.n)], a.want)
	if err != nil {
		t.Fatal(err)
	}
	_, grads, err := net.Back(a.n, saw, g)
	if err != nil {
		t.Fatal(err)
	}
	return grads
}

// TestA3MostIsNoMoreThanAll: no more than one for each layer, and one; just as
// many where nothing is given up early, and fewer where there is much to give up.
func TestA3MostIsNoMoreThanAll(t *testing.T) {
	for layers, every := range everySize {
		most, err := Most(layers, every)
		if err != nil {
			t.Fatalf("Most(%d, %d): %v", layers, every, err)
		}
		whole := every == 1 || every >= layers
		if layers >= 1 && (most > layers+1 || most < 2 || whole && most != layers+1) {
			t.Errorf("Most(%d, %d) = %d", layers, every, most)
		}
	}
	for layers := 4; layers <= api.MaxLayers; layers++ {
		if most, _ := Most(layers, 2); most != layers/2+2 {
			t.Errorf("Most(%d, 2) = %d, want %d", layers, most, layers/2+2)
		}
	}
}

func heldBy(s *shelf) []int {
	var places []int
	for place := range s.held {
		places = append(places, place)
	}
	slices.Sort(places)
	return places
}

// heads has what stands ahead of the groups of so many layers, and what comes of all.
func heads(layers, every, all int) []int {
	var places []int
	for from := 0; from < layers; from += every {
		places = append(places, from)
	}
	return append(places, all)
}

// TestA1TheShelf: there is nothing on it but what the chapter says is kept.
func TestA1TheShelf(t *testing.T) {
	r := rand.New(rand.NewSource(6))
	for layers, every := range everySize {
		a := someAsked(r, 2, 3, someWords(r, layers, layers), every)
		saw, _ := net.Go(a.n, a.x)
		s, err := forth(a.n, a.x, every)
		if err != nil {
			t.Fatalf("forth(%v): %v", a, err)
		}
		mustHold(t, "there", s, saw, heads(layers, every, layers))
		g, _ := loss.Back(saw[layers], a.want)
		grads := make([]api.Grad, layers)
		for to := layers; to > 0; {
			from := to - 1
			for from%every != 0 {
				from--
			}
			if err := s.fill(a.n, from, to); err != nil {
				t.Fatalf("fill(%v): %v", a, err)
			}
			between := heads(to, every, layers)
			for place := from + 1; place < to; place++ {
				between = append(between, place)
			}
			slices.Sort(between)
			mustHold(t, "filled", s, saw, between)
			if g, err = s.backGroup(a.n, from, to, g, grads); err != nil {
				t.Fatalf("backGroup(%v): %v", a, err)
			}
			mustHold(t, "gone back", s, saw, heads(from, every, layers))
			to = from
		}
	}
}

// mustHold holds that these places of what stands behind each layer are kept, and no others.
func mustHold(t *testing.T, name string, s *shelf, saw []api.Matrix, places []int) {
	t.Helper()
	if got := heldBy(s); !slices.Equal(got, places) {
		t.Fatalf("%s: %d layers: %v is kept, want %v", name, len(saw)-1, got, places)
	}
	for _, place := range places {
		if fmt.Sprint(s.held[place]) != fmt.Sprint(saw[place]) {
			t.Errorf("%s: ahead of layer %d stands %v, want %v", name, place, s.held[place], saw[place])
		}
	}
}
