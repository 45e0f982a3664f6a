package clock

import (
	"math"
	"math/big"
	"math/rand"
	"testing"

	"galley/api"
)

func TestC2LongAndIdle(t *testing.T) {
	cases := []struct {
		name  string
		spans [][]api.Span
		long  int
		idle  []int
	}{
		{"nothing", nil, 0, nil},
		{"nothing, but no nil", [][]api.Span{}, 0, nil},
		{"a stage without acts", at(""), 0, []int{0}},
		{"stages without acts", at("", "", ""), 0, []int{0, 0, 0}},
		{"no nil", [][]api.Span{{}, nil, {}}, 0, []int{0, 0, 0}},
		{"one act", at("0-5"), 5, []int{0}},
		{"one act, later", at("3-5"), 5, []int{3}},
		{"acts with time between", at("1-2 4-7"), 7, []int{3}},
		{"the chapter's", at("0-1 7-10", "1-3 3-7"), 10, []int{6, 4}},
		{"greatest in the first", at("0-9", "0-3", "1-2"), 9, []int{0, 6, 8}},
		{"greatest in the middle", at("0-3", "0-9", "1-2"), 9, []int{6, 0, 8}},
		{"greatest in the last", at("0-3", "1-2", "0-9"), 9, []int{6, 8, 0}},
		{"greatest ahead in its stage", at("0-3", "2-9 1-4"), 9, []int{6, -1}},
		{"greatest in the middle of its stage", at("0-3", "1-4 2-9 5-6"), 9, []int{6, -2}},
		{"first without acts", at("", "0-4"), 4, []int{4, 0}},
		{"last without acts", at("0-4", ""), 4, []int{0, 4}},
		{"all below 0", at("~9-~5"), -5, []int{-9}},
		{"all below 0, in stages", at("~9-~5", "~7-~3 ~8-~6"), -3, []int{-7, -9}},
		{"all below 0, the first the greatest", at("~9-~2", "~7-~3"), -2, []int{-9, -6}},
		{"all below 0, and some without acts", at("", "~9-~5", ""), -5, []int{-5, -9, -5}},
		{"some below 0", at("~9-~5", "~1-1"), 1, []int{-3, -1}},
		{"up to 0", at("~9-0", "~9-~1"), 0, []int{-9, -8}},
		{"ends ahead of its beginning", at("5-3"), 3, []int{5}},
		{"ends ahead of their beginning", at("5-3 9-2", "0-1"), 3, []int{12, 2}},
		{"ends below 0, begins above", at("5-~3"), -3, []int{5}},
		{"takes nothing", at("4-4", "0-0"), 4, []int{4, 4}},
		{"over one another", at("0-4 0-4 0-4"), 4, []int{-8}},
		{"eight stages", at("0-1", "0-2", "0-3", "0-4", "0-5", "0-6", "0-7", "0-8"), 8, []int{7, 6, 5, 4, 3, 2, 1, 0}},
	}
	for _, c := range cases {
		mustLong(t, c.name, c.spans, c.long)
		mustIdle(t, c.name, c.spans, c.idle...)
	}
}

// TestC2EndsOfInts: numbers are reckoned with as ints, which go round.
func TestC2EndsOfInts(t *testing.T) {
	const least, most = math.MinInt, math.MaxInt
	span := func(from, to int) api.Span { return api.Span{From: from, To: to} }
	cases := []struct {
		name  string
		spans [][]api.Span
		long  int
		idle  []int
	}{
		{"the least end", [][]api.Span{{span(0, least)}}, least, []int{0}},
		{"the least ends", [][]api.Span{{span(least, least)}, {span(0, least)}}, least, []int{least, 0}},
		{"the least end, then one more", [][]api.Span{{span(0, least)}, {span(0, least+1)}}, least + 1, []int{1, 0}},
		{"the greatest end", [][]api.Span{{span(0, most)}}, most, []int{0}},
		{"from the least to the greatest", [][]api.Span{{span(least, most)}}, most, []int{least}},
		{"from the greatest to the least", [][]api.Span{{span(most, least)}}, least, []int{most}},
		{"twice from the least to the greatest", [][]api.Span{{span(least, most), span(least, most)}, nil}, most, []int{least + 1, most}},
		{"below the least", [][]api.Span{{span(0, most), span(0, most), span(0, most)}}, most, []int{2}},
	}
	for _, c := range cases {
		mustLong(t, c.name, c.spans, c.long)
		mustIdle(t, c.name, c.spans, c.idle...)
	}
}

// around brings a number of any size into an int, as ints go round.
func around(x *big.Int) int {
	whole := new(big.Int).Lsh(big.NewInt(1), 64)
	return int(new(big.Int).Mod(x, whole).Uint64())
}

// TestC2AnySpans: spans of all kinds, reckoned with numbers that do not end.
func TestC2AnySpans(t *testing.T) {
	r := rand.New(rand.NewSource(2))
	edges := []int{math.MinInt, math.MinInt + 1, -2, -1, 0, 1, 2, math.MaxInt - 1, math.MaxInt}
	number := func() int {
		switch r.Intn(4) {
		case 0:
			return edges[r.Intn(len(edges))]
		case 1:
			return int(r.Uint64())
		case 2:
			return -r.Intn(50)
		}
		return r.Intn(20) - 10
	}
	for range 20000 {
		spans := make([][]api.Span, r.Intn(9))
		for stage := range spans {
			for range r.Intn(4) {
				spans[stage] = append(spans[stage], api.Span{From: number(), To: number()})
			}
		}
		long, idle := toldOfSpans(spans)
		mustLong(t, "any spans", spans, long)
		mustIdle(t, "any spans", spans, idle...)
	}
}

// toldOfSpans is what the chapter says of spans.
func toldOfSpans(spans [][]api.Span) (int, []int) {
	var ends []int
	for _, line := range spans {
		for _, span := range line {
			ends = append(ends, span.To)
		}
	}
	long := 0
	for _, end := range ends {
		isGreatest := true
		for _, other := range ends {
			isGreatest = isGreatest && end >= other
		}
		if isGreatest {
			long = end
		}
	}
	var idle []int
	for _, line := range spans {
		left := big.NewInt(int64(long))
		for _, span := range line {
			left.Sub(left, big.NewInt(int64(span.To)))
			left.Add(left, big.NewInt(int64(span.From)))
		}
		idle = append(idle, around(left))
	}
	return long, idle
}

// TestC2ManySpans: more stages and acts than any plan has.
func TestC2ManySpans(t *testing.T) {
	var spans [][]api.Span
	var want []int
	for stage := range 300 {
		var line []api.Span
		for i := range 300 {
			line = append(line, api.Span{From: i, To: i + stage})
		}
		spans = append(spans, line)
		want = append(want, 598-300*stage)
	}
	mustLong(t, "many", spans, 598)
	mustIdle(t, "many", spans, want...)
}
