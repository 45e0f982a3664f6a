package run

import (
	"strconv"
	"strings"
	"testing"

	"galley/api"
)

const (
	topText   = "8388607.99609375"
	leastText = "0.00390625"
)

// mustAsSlowly holds a line against what is told by other ways.
func mustAsSlowly(t *testing.T, words ...string) {
	t.Helper()
	line := strings.Join(words, " ")
	mustTell(t, line, slowAnswer(line)+"\n")
}

// TestX1AddAndMul: also at the ends, and where what is behind the point is
// rounded down.
func TestX1AddAndMul(t *testing.T) {
	mustAnswer(t,
		pair{"add 0 0", "0"}, pair{"add 1 -1", "0"}, pair{"add 1.5 0.25", "1.75"}, pair{"add -0.5 -0.5", "-1"},
		pair{"add 0.99609375 " + leastText, "1"}, pair{"add -1 " + leastText, "-0.99609375"},
		pair{"add " + topText + " " + leastText, topText}, pair{"add -" + topText + " -" + leastText, "-" + topText},
		pair{"add " + topText + " -" + topText, "0"}, pair{"add " + topText + " " + topText, topText},
		pair{"mul 0 -1", "0"}, pair{"mul 1.5 2", "3"}, pair{"mul 1.5 -2", "-3"}, pair{"mul -2 1.5", "-3"}, pair{"mul -2 -2", "4"},
		pair{"mul " + leastText + " 0.5", "0"}, pair{"mul -" + leastText + " 0.5", "-" + leastText},
		pair{"mul " + leastText + " -0.5", "-" + leastText}, pair{"mul -" + leastText + " -0.5", "0"},
		pair{"mul " + topText + " 2", topText}, pair{"mul " + topText + " -2", "-" + topText},
		pair{"mul -" + topText + " -" + topText, topText}, pair{"mul 4096 4096", topText})
}

// TestX1Sizes: of all rows and parts, and of more than there may be.
func TestX1Sizes(t *testing.T) {
	mustAnswer(t, pair{"sizes 1 1", "1"}, pair{"sizes 10 4", "3,3,2,2"}, pair{"sizes 24 12", "2,2,2,2,2,2,2,2,2,2,2,2"},
		pair{"sizes 0 1", "ErrRange"}, pair{"sizes 25 1", "ErrRange"}, pair{"sizes 1 0", "ErrRange"}, pair{"sizes 24 13", "ErrRange"},
		pair{"sizes 2 3", "ErrShape"}, pair{"sizes 11 12", "ErrShape"}, pair{"sizes 2 13", "ErrRange"}, pair{"sizes 0 0", "ErrRange"})
	for rows := range 27 {
		for parts := range 15 {
			mustAsSlowly(t, "sizes", strconv.Itoa(rows), strconv.Itoa(parts))
		}
	}
}

// TestX1Cut: each error by its name, the first one that applies, and the ends
// and what the dearest costs.
func TestX1Cut(t *testing.T) {
	twelve := strings.Repeat("1,", 11) + "1"
	mustAnswer(t,
		pair{"cut 5 1", "1 5"}, pair{"cut 4,1,1,6 1", "4 12"}, pair{"cut 4,1,1,6 2", "3,4 6"}, pair{"cut 4,1,1,6 4", "1,2,3,4 6"},
		pair{"cut 0,0,0 2", "1,3 0"}, pair{"cut " + twelve + " 6", "2,4,6,8,10,12 2"},
		pair{"cut 1000000,1000000 1", "2 2000000"}, pair{"cut " + strings.ReplaceAll(twelve, "1", "1000000") + " 1", "12 12000000"},
		pair{"cut 1 0", "ErrRange"}, pair{"cut 1,1,1,1,1,1,1 7", "ErrRange"}, pair{"cut - 1", "ErrRange"},
		pair{"cut " + twelve + ",1 6", "ErrRange"}, pair{"cut 1000001 1", "ErrRange"}, pair{"cut 1,1000001 2", "ErrRange"},
		pair{"cut 1 2", "ErrShape"}, pair{"cut 1,1,1,1,1 6", "ErrShape"},
		pair{"cut 1000001 2", "ErrRange"}, pair{"cut 1 7", "ErrRange"}, pair{"cut - 2", "ErrRange"})
	for _, costs := range []string{"-", "0", "3", "3,1", "1,2,3", "9,9,1,1", "5,0,0,5,0", "1,1,2,3,5,8", "8,5,3,2,1,1,0",
		"1000000,0,1000000,1,1000001", "7,7,7,7,7,7,7,7,7,7,7,7", "1,2,3,4,5,6,7,8,9,10,11,12", "1,2,3,4,5,6,7,8,9,10,11,12,13"} {
		for stages := range 9 {
			mustAsSlowly(t, "cut", costs, strconv.Itoa(stages))
		}
	}
}

// TestX1Plan: of both kinds, all stages and parts, and more than there may be.
func TestX1Plan(t *testing.T) {
	mustAnswer(t,
		pair{"plan wave 1 1", "F0,B0"}, pair{"plan turns 1 2", "F0,B0,F1,B1"}, pair{"plan wave 1 2", "F0,F1,B0,B1"},
		pair{"plan turns 3 2", "F0,F1,B0,B1/F0,F1,B0,B1/F0,B0,F1,B1"},
		pair{"plan turns 2 12", "F0,F1,B0,F2,B1,F3,B2,F4,B3,F5,B4,F6,B5,F7,B6,F8,B7,F9,B8,F10,B9,F11,B10,B11/" +
			"F0,B0,F1,B1,F2,B2,F3,B3,F4,B4,F5,B5,F6,B6,F7,B7,F8,B8,F9,B9,F10,B10,F11,B11"},
		pair{"plan wave 0 1", "ErrRange"}, pair{"plan wave 7 1", "ErrRange"}, pair{"plan wave 1 0", "ErrRange"}, pair{"plan wave 1 13", "ErrRange"},
		pair{"plan turns 0 1", "ErrRange"}, pair{"plan turns 7 1", "ErrRange"}, pair{"plan turns 1 0", "ErrRange"}, pair{"plan turns 1 13", "ErrRange"})
	mustAllPlans(t, "plan")
}

// mustAllPlans holds a row that asks of a plan against other ways.
func mustAllPlans(t *testing.T, name string, more ...string) {
	t.Helper()
	for _, kind := range []string{"wave", "turns"} {
		for stages := range 8 {
			for parts := range 15 {
				mustAsSlowly(t, append([]string{name, kind, strconv.Itoa(stages), strconv.Itoa(parts)}, more...)...)
			}
		}
	}
}

// TestX1Long: likewise, also by how long each takes.
func TestX1Long(t *testing.T) {
	mustAnswer(t,
		pair{"long wave 2 3 1 2", "12 3,3"}, pair{"long turns 2 3 1 2", "12 3,3"}, pair{"long wave 1 1 1 1", "2 0"},
		pair{"long turns 6 12 1000000 1000000", "34000000 10000000,10000000,10000000,10000000,10000000,10000000"},
		pair{"long wave 1 12 3 4", "84 0"}, pair{"long wave 2 1 4 3", "14 7,7"},
		pair{"long wave 0 1 1 1", "ErrRange"}, pair{"long turns 7 1 1 1", "ErrRange"},
		pair{"long wave 1 0 1 1", "ErrRange"}, pair{"long turns 1 13 1 1", "ErrRange"},
		pair{"long wave 1 1 0 1", "ErrRange"}, pair{"long turns 1 1 1 0", "ErrRange"},
		pair{"long wave 1 1 1000001 1", "ErrRange"}, pair{"long turns 1 1 1 1000001", "ErrRange"},
		pair{"long wave 999999999 999999999 999999999 999999999", "ErrRange"}, pair{"long turns 999999999 1 1 1", "ErrRange"})
	for _, more := range [][]string{{"1", "1"}, {"1", "2"}, {"7", "3"}, {"1000000", "1"}, {"1", "1000000"},
		{"0", "1"}, {"1", "0"}, {"1000001", "1"}, {"1", "1000001"}} {
		mustAllPlans(t, "long", more...)
	}
}

// TestX1Peaks: likewise.
func TestX1Peaks(t *testing.T) {
	mustAnswer(t,
		pair{"peaks turns 3 2", "2,2,1"}, pair{"peaks wave 3 2", "2,2,2"}, pair{"peaks turns 6 12", "6,5,4,3,2,1"},
		pair{"peaks wave 2 12", "12,12"}, pair{"peaks wave 1 1", "1"},
		pair{"peaks wave 0 1", "ErrRange"}, pair{"peaks turns 7 1", "ErrRange"}, pair{"peaks wave 1 0", "ErrRange"}, pair{"peaks turns 1 13", "ErrRange"})
	mustAllPlans(t, "peaks")
}

// rowsOf are so many workers, each with as many numbers.
func rowsOf(workers, count int, x string) string {
	row := strings.Repeat(","+x, count)[1:]
	return strings.Repeat("/"+row, workers)[1:]
}

// TestX1Sum: each error by its name, the first one that applies, and the sums,
// also where it matters with whom they begin.
func TestX1Sum(t *testing.T) {
	end, other := rowsOf(1, 3, topText), rowsOf(1, 3, "-"+topText)
	sixty := rowsOf(1, 60, "1")
	mustAnswer(t,
		pair{"sum 1,2/3,4", "4,6"}, pair{"sum 0", "0"}, pair{"sum 1.5,-2", "1.5,-2"}, pair{"sum 1/2/3/4/5/6", "21"},
		pair{"sum " + leastText + "/-" + leastText, "0"},
		pair{"sum " + end + "/" + end + "/" + other, topText + "," + topText + ",0"},
		pair{"sum " + sixty, sixty}, pair{"sum " + rowsOf(6, 60, "1"), rowsOf(1, 60, "6")},
		pair{"sum " + rowsOf(7, 1, "1"), "ErrRange"}, pair{"sum " + rowsOf(100, 1, "1"), "ErrRange"},
		pair{"sum 1,2/3", "ErrShape"}, pair{"sum 1/2,3", "ErrShape"}, pair{"sum 1/2/3/4/5/6,7", "ErrShape"},
		pair{"sum " + sixty + ",1", "ErrFull"}, pair{"sum " + rowsOf(2, 61, "1"), "ErrFull"},
		pair{"sum " + sixty + ",1/1", "ErrFull"}, pair{"sum 1/" + sixty + ",1", "ErrShape"},
		pair{"sum " + rowsOf(6, 1, "1") + "/1,2", "ErrRange"}, pair{"sum " + rowsOf(7, 61, "1"), "ErrRange"})
	for workers := 1; workers <= 7; workers++ {
		for count := 1; count <= 14; count++ {
			mustAsSlowly(t, "sum", rowsOf(workers, count, topText))
			mustAsSlowly(t, "sum", rowsOf(workers, count, "1.5")+"/"+rowsOf(1, count, "-"+topText))
		}
	}
}

// TestX1Learn: with no steps, with as many as may be, and with one more.
func TestX1Learn(t *testing.T) {
	mustAnswer(t,
		pair{"learn 1 2 0", "1"}, pair{"learn 1 2 1", "1.5"}, pair{"learn 1 2 2", "1.75"}, pair{"learn 1 2 20", "2"},
		pair{"learn 1 2 21", "ErrFull"}, pair{"learn 1 2 999999999", "ErrFull"}, pair{"learn 0 5 20", "1"}, pair{"learn 3 3 20", "1"},
		pair{"learn 2 0 1", "-1"}, pair{"learn 2 0 2", "1"}, pair{"learn -1 2 1", "-0.5"},
		pair{"learn " + topText + " " + topText + " 0", "1"}, pair{"learn " + topText + " -" + topText + " 21", "ErrFull"},
		pair{"learn 1 -1 1", "0"}, pair{"learn 0.5 1 2", "1.234375"}, pair{"learn 0.5 1 3", "1.33203125"})
	for _, in := range []string{"0", "1", "-1", "0.5", "-1.25", leastText, "3", "100", topText, "-" + topText} {
		for _, want := range []string{"0", "1", "-2.5", leastText, "1000", topText, "-" + topText} {
			for steps := range 23 {
				mustAsSlowly(t, "learn", in, want, strconv.Itoa(steps))
			}
		}
	}
}

// TestX1ErrorsByName: of each row, each error that it has, and none beside them.
func TestX1ErrorsByName(t *testing.T) {
	for line, e := range map[string]api.Errno{
		"sizes 0 1": api.ErrRange, "sizes 1 2": api.ErrShape,
		"cut - 1": api.ErrRange, "cut 1 2": api.ErrShape,
		"plan wave 0 1": api.ErrRange, "long turns 1 1 1 0": api.ErrRange, "peaks wave 1 13": api.ErrRange,
		"sum 1/1/1/1/1/1/1": api.ErrRange, "sum 1/1,1": api.ErrShape, "sum " + rowsOf(1, 61, "0"): api.ErrFull,
		"learn 1 1 21": api.ErrFull,
	} {
		mustTell(t, line, e.Error()+"\n")
	}
}

// TestX1EmptyListsAreTold: no row comes to tell an empty list, but it would be
// told as one is read.
func TestX1EmptyListsAreTold(t *testing.T) {
	for _, l := range [][]int{nil, {}} {
		if got := numbersText(l); got != "-" {
			t.Errorf("numbersText(%v) = %q, want -", l, got)
		}
		if got := valuesText(l); got != "-" {
			t.Errorf("valuesText(%v) = %q, want -", l, got)
		}
	}
	if got := numbersText([]int{0}); got != "0" {
		t.Errorf("numbersText of 0 = %q", got)
	}
	if got := valuesText([]int{0, -64}); got != "0,-0.25" {
		t.Errorf("valuesText of 0, -64 = %q", got)
	}
}
