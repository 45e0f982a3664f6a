package team

import (
	"fmt"
	"math/rand"
	"slices"
	"testing"

	"galley/api"
	"galley/train"
)

func told(t *testing.T, name string, a asked, want train.State, off int) {
	t.Helper()
	if got, want := a.one(), answer(want, off, nil); got != want {
		t.Errorf("%s: One(%v) =\n%s\nwant\n%s", name, a, got, want)
	}
}

func TestT1ByHand(t *testing.T) {
	a := asked{train.Begin([]api.Layer{scaleOf(256)}), batchOf(column(256, 256), column(512, 512)), 2, 1, api.Rates{Learn: 64}}
	told(t, "a Scale", a, train.State{Net: []api.Layer{scaleOf(384)}, Speed: []api.Grad{{W: of(1, 1, -512)}}, Steps: 1}, 256)

	// Hand 0 has two rows, hand 1 has one: 1 and 2 go to W's first cell, 3 to its
	// second; the speed is 100, kept by half.
	line := linearOf(of(2, 1, 256, 512), of(1, 1, 0))
	a = asked{
		s: train.State{Net: []api.Layer{line}, Speed: []api.Grad{{W: of(2, 1, 100, -100), B: of(1, 1, 7)}}, Steps: 41},
		b: batchOf(of(3, 2, 256, 0, 512, 0, 0, 768), column(0, 0, 0)), crew: 2, parts: 1, r: api.Rates{Learn: 128, Keep: 128},
	}
	told(t, "a Linear", a, train.State{
		Net:   []api.Layer{linearOf(of(2, 1, 256-(1280+50)/2, 512-(4608-50)/2), of(1, 1, -1153))},
		Speed: []api.Grad{{W: of(2, 1, 1280+50, 4608-50), B: of(1, 1, 256+512+1536+3)}},
		Steps: 42,
	}, 128*(1+4+36))

	// Of three layers each has numbers of its own, and one has none.
	a = asked{
		s:    train.Begin([]api.Layer{scaleOf(512), reluOf(), shiftOf(-256)}),
		b:    batchOf(column(256, -256, 512), column(0, 0, 0)),
		crew: 3, parts: 1, r: api.Rates{Learn: 256},
	}
	told(t, "three layers", a, train.State{
		Net:   []api.Layer{scaleOf(512 - 256 - 1536), reluOf(), shiftOf(-256 - 256 + 256 - 768)},
		Speed: []api.Grad{{W: of(1, 1, 256+1536)}, {}, {B: of(1, 1, 256-256+768)}},
		Steps: 1,
	}, 128*(1+1+9))
}

// TestT1NoNumbers: there is nothing to be turned, but how far off it is, and
// that a step was made.
func TestT1NoNumbers(t *testing.T) {
	for crew := 1; crew <= api.MaxCrew; crew++ {
		for _, n := range [][]api.Layer{nil, {}, {reluOf()}, {reluOf(), reluOf()}} {
			a := asked{train.Begin(n), batchOf(full(crew, 2, 256), full(crew, 2, 0)), crew, 1, api.Rates{Learn: 256, Keep: 256}}
			told(t, fmt.Sprint(crew, " hands, ", len(n), " layers"), a, train.State{Net: n, Speed: make([]api.Grad, len(n)), Steps: 1}, 256*crew)
			a.must(t, "no numbers")
			a.b = batchOf(of(crew, 0), of(crew, 0))
			told(t, fmt.Sprint(crew, " hands, no columns"), a, train.State{Net: n, Speed: make([]api.Grad, len(n)), Steps: 1}, 0)
		}
	}
}

// TestT1EveryKind: all hands and parts that may be, of nets with every kind of
// layer, of few numbers and of many.
func TestT1EveryKind(t *testing.T) {
	r := rand.New(rand.NewSource(1))
	for crew, parts := range everyDeal {
		for range 25 {
			a := someAsked(r, 1+r.Intn(api.MaxSide), someWords(r, 1+r.Intn(api.MaxLayers)), crew, parts)
			a.must(t, fmt.Sprint(crew, " hands, ", parts, " parts"))
		}
	}
}

// TestT1EveryCountOfRows: hands, and parts of hands, are as even as may be, the
// greater ones first.
func TestT1EveryCountOfRows(t *testing.T) {
	r := rand.New(rand.NewSource(2))
	for crew, parts := range everyDeal {
		for rows := crew * parts; rows <= min(api.MaxRows, api.MaxSide*crew*parts); rows++ {
			for _, m := range makers(r) {
				a := someAsked(r, 2, "S L3 C", crew, parts)
				a.b = batchOf(m.matrix(rows, 2), m.matrix(rows, 3))
				a.must(t, fmt.Sprint(crew, " hands, ", parts, " parts, ", rows, " rows"))
			}
		}
	}
}

// counted has nets by how many numbers they have, some of just as many as one
// sum may have, and of one more and one less.
var counted = []struct {
	count, in int
	words     string
}{
	{0, 3, ""}, {0, 12, "R R"}, {1, 4, "C"}, {2, 1, "R C S"}, {6, 5, "L1"}, {12, 12, "R S"}, {24, 11, "L2"},
	{58, 9, "L5 R C C C S"}, {59, 4, "L11 C C C C"},
	{60, 12, "S S S S S"}, {60, 4, "L12"}, {60, 5, "R L10 R"}, {60, 2, "L12 S R S"}, {60, 11, "L5"}, {60, 6, "L8 C C C C"},
	{61, 12, "C S S S S S"}, {61, 12, "S S S S S C"}, {61, 4, "L12 C R"}, {61, 5, "C R L10"},
	{62, 11, "L5 C R C"}, {119, 12, "L9 C R C"}, {120, 9, "L12"}, {120, 12, "S S S S S S S S S S"}, {120, 4, "L12 S S S S S"},
	{121, 10, "L11"}, {121, 9, "C L12 R"}, {180, 12, "S L12 R S"}, {181, 12, "S L12 C S"}, {240, 9, "L12 S S S S S S S S S S"},
	{312, 12, "L12 L12"}, {1872, 12, "L12 L12 L12 L12 L12 L12 L12 L12 L12 L12 L12 L12"},
}

func countOf(n []api.Layer) int {
	count := 0
	for _, l := range n {
		count += len(l.W.Cells) + len(l.B.Cells)
	}
	return count
}

func TestT1HowManyNumbers(t *testing.T) {
	r := rand.New(rand.NewSource(3))
	for _, c := range counted {
		for crew := 1; crew <= api.MaxCrew; crew++ {
			for _, parts := range []int{1, 2, 4} {
				for range 5 {
					a := someAsked(r, c.in, c.words, crew, parts)
					if count := countOf(a.s.Net); count != c.count {
						t.Fatalf("%s of %d has %d numbers, want %d", c.words, c.in, count, c.count)
					}
					a.must(t, fmt.Sprintf("%d hands, %d parts, %s of %d", crew, parts, c.words, c.in))
				}
			}
		}
	}
}

// allShifts is a team of one row a hand, and of so many Shifts of 12 columns: of
// each, every number of a hand's Grad is what stands for the hand.
func allShifts(layers int, hands ...int) asked {
	var want []int
	for _, x := range hands {
		want = append(want, slices.Repeat([]int{-x}, 12)...)
	}
	zero := shiftOf(make([]int, 12)...)
	return asked{
		s:     train.Begin(slices.Repeat([]api.Layer{zero}, layers)),
		b:     batchOf(full(len(hands), 12, 0), of(len(hands), 12, want...)),
		crew:  len(hands),
		parts: 1,
	}
}

// speeds are all numbers of the speed that One tells; of rates of 0 they are the sums.
func speeds(t *testing.T, a asked) []int {
	t.Helper()
	s, _, err := One(a.s, a.b, a.crew, a.parts, a.r)
	if err != nil {
		t.Errorf("One(%v): %v", a, err)
	}
	return numbersOf(s.Speed)
}

// run is a number so many times.
func run(x, count int) []int { return slices.Repeat([]int{x}, count) }

// TestT1SumsToTheirEnds: up to 60 numbers go round, so that each piece begins
// with another hand; more are summed up by halves, all of them alike.
func TestT1SumsToTheirEnds(t *testing.T) {
	for _, c := range []struct {
		name   string
		layers int
		hands  []int
		want   []int
	}{
		{"12 numbers, 3 hands", 1, []int{top, top, -top}, slices.Concat(run(top, 8), run(0, 4))},
		{"60 numbers, 3 hands", 5, []int{top, top, -top}, slices.Concat(run(top, 40), run(0, 20))},
		{"60 numbers, down first", 5, []int{-top, top, top}, slices.Concat(run(0, 20), run(top, 40))},
		{"60 numbers, 4 hands", 5, []int{top, top, -top, -top}, slices.Concat(run(0, 15), run(top, 15), run(0, 15), run(-top, 15))},
		{"60 numbers, a little behind the end", 5, []int{top, 5, -1}, slices.Concat(run(top, 20), run(top, 20), run(top-1, 20))},
		{"72 numbers, 3 hands", 6, []int{top, top, -top}, run(0, 72)},
		{"72 numbers, down first", 6, []int{-top, top, top}, run(top, 72)},
		{"72 numbers, 4 hands", 6, []int{top, top, -top, -top}, run(0, 72)},
		{"120 numbers, 5 hands", 10, []int{top, top, -top, -top, top}, run(0, 120)},
		{"120 numbers, the last two in one half", 10, []int{top, top, -top, top, top}, run(top, 120)},
		{"144 numbers, 6 hands", 12, []int{top, top, -5, -top, -top, 7}, run(2, 144)},
		{"144 numbers, a little behind the end", 12, []int{top, 5, -1}, run(top-1, 144)},
	} {
		a := allShifts(c.layers, c.hands...)
		if got := speeds(t, a); !slices.Equal(got, c.want) {
			t.Errorf("%s: the sums are %v, want %v", c.name, got, c.want)
		}
		a.must(t, c.name)
	}
}

// TestT1WhereSixtyIsOneMore: just 60 numbers go round, and one more, be it the
// first one or the last one, makes all of them go by halves.
func TestT1WhereSixtyIsOneMore(t *testing.T) {
	for _, hands := range [][]int{{top, top, -top}, {top, -top, -top}, {top, top, -top, -top}, {top, 1, -1, 2, -2}, {top, top, top, -top, -top, -top}} {
		sixty := allShifts(5, hands...)
		first, last := allShifts(5, hands...), allShifts(5, hands...)
		first.s = train.Begin(slices.Concat([]api.Layer{scaleOf(256)}, first.s.Net))
		last.s = train.Begin(slices.Concat(last.s.Net, []api.Layer{scaleOf(256)}))
		var round []int
		for place := range 60 {
			round = append(round, sumRound(hands, pieceOf(place, 60, len(hands))))
		}
		halves := run(sumHalves(hands), 60)
		if slices.Equal(round, halves) {
			t.Fatalf("%v: it can't be seen how they are summed up", hands)
		}
		if got := speeds(t, sixty); !slices.Equal(got, round) {
			t.Errorf("%v, 60 numbers: %v, want %v", hands, got, round)
		}
		if got := speeds(t, first); !slices.Equal(got, append([]int{0}, halves...)) {
			t.Errorf("%v, one more first: %v, want %v", hands, got, halves)
		}
		if got := speeds(t, last); !slices.Equal(got, append(halves, 0)) {
			t.Errorf("%v, one more last: %v, want %v", hands, got, halves)
		}
	}
}

// TestT1EveryNumberComesBack: where no sum comes to its end, each number has the
// sum of what the hands have at its place, and none comes back elsewhere.
func TestT1EveryNumberComesBack(t *testing.T) {
	for _, c := range counted {
		r := rand.New(rand.NewSource(4))
		for crew := 1; crew <= api.MaxCrew; crew++ {
			m := upTo(r, 100)
			n, out := m.net(c.in, c.words)
			rows := 2 * crew
			a := asked{m.state(n, 0), batchOf(m.matrix(rows, c.in), m.matrix(rows, out)), crew, 1, api.Rates{}}
			lists, _ := a.lists()
			var want []int
			for place := range lists[0] {
				want = append(want, sumInOrder(across(lists, place)))
			}
			if got := speeds(t, a); !slices.Equal(got, want) {
				t.Errorf("%d hands, %s: the sums are %v, want %v", crew, c.words, got, want)
			}
		}
	}
}

// TestT1ItMattersHow: of the sums that are held against what was said once more,
// enough come out otherwise by the other way, and one behind the other.
func TestT1ItMattersHow(t *testing.T) {
	r := rand.New(rand.NewSource(5))
	otherwise := map[string]int{}
	for _, c := range counted {
		for crew := 3; crew <= api.MaxCrew; crew++ {
			for range 10 {
				a := someAsked(r, c.in, c.words, crew, 1)
				a.must(t, c.words)
				lists, _ := a.lists()
				count := len(lists[0])
				for place, sum := range sumsSlowly(lists) {
					l := across(lists, place)
					other, way := sumHalves(l), "round"
					if count > 60 {
						other, way = sumRound(l, pieceOf(place, count, crew)), "halves"
					}
					if sum != other {
						otherwise[way+", not the other"]++
					}
					if sum != sumInOrder(l) {
						otherwise[way+", not in order"]++
					}
				}
			}
		}
	}
	if len(otherwise) != 4 || slices.Min(slices.Collect(values(otherwise))) < 50 {
		t.Errorf("few sums come out otherwise: %v", otherwise)
	}
}

func values(m map[string]int) func(yield func(int) bool) {
	return func(yield func(int) bool) {
		for _, x := range m {
			if !yield(x) {
				return
			}
		}
	}
}

// TestT1LossesToTheirEnds: a part is off by 2^30 - 1 at most; the sum of all
// hands comes to its end as that of parts does.
func TestT1LossesToTheirEnds(t *testing.T) {
	const far = 1<<30 - 1
	for crew := 1; crew <= api.MaxCrew; crew++ {
		for parts := 1; parts <= 4; parts++ {
			rows := crew * parts
			name := fmt.Sprint(crew, " hands, ", parts, " parts")
			a := asked{train.State{}, batchOf(full(rows, 1, top), full(rows, 1, 0)), crew, parts, api.Rates{}}
			told(t, name, a, train.State{Steps: 1}, min(far*rows, top))
			a.b.Want = full(rows, 1, top)
			a.b.In.Cells[0] = 0
			told(t, name+", the first off", a, train.State{Steps: 1}, far)
			a.b.In.Cells[0] = top
			a.b.In.Cells[rows-1] = -top
			told(t, name+", the last off", a, train.State{Steps: 1}, far)
		}
	}
	// Each part is rounded of itself: 16 and 16 in one part are off by 1, in two by 0.
	a := asked{train.State{}, batchOf(full(4, 1, 16), full(4, 1, 0)), 2, 1, api.Rates{}}
	told(t, "two rows a hand", a, train.State{Steps: 1}, 2)
	a.parts = 2
	told(t, "one row a part", a, train.State{Steps: 1}, 0)
	a.crew, a.parts = 4, 1
	told(t, "one row a hand", a, train.State{Steps: 1}, 0)
	a.b = batchOf(column(top, top, 0), column(0, 0, 32))
	a.crew = 3
	told(t, "up to the end, just", a, train.State{Steps: 1}, top)
	a.b.Want.Cells[2] = 22
	told(t, "up to one less", a, train.State{Steps: 1}, top-1)
}
