package run

import (
	"math/big"
	"math/rand"
	"regexp"
	"slices"
	"sort"
	"strconv"
	"strings"
	"testing"
)

// What is here answers lines by other ways than the program: by a form of each
// whole line, by whole numbers of any size and by fractions, by a look at all
// cuts, and by what the chapters say follows. It calls nothing of the program.

const (
	numberForm  = `(0|[1-9][0-9]{0,8})`
	numbersForm = `(-|(?:0|[1-9][0-9]{0,8})(?:,(?:0|[1-9][0-9]{0,8}))*)`
	valueForm   = `(-?(?:0|[1-9][0-9]*)(?:\.[0-9]*[1-9])?)`
	rowsForm    = `([-0-9.,/]+)`
	kindForm    = `(wave|turns)`
)

var slowForms = []struct {
	form *regexp.Regexp
	told func(w []string) string
}{
	{formOf("add", valueForm, valueForm), func(w []string) string { return slowTwo(w, slowAdd) }},
	{formOf("mul", valueForm, valueForm), func(w []string) string { return slowTwo(w, slowMul) }},
	{formOf("sizes", numberForm, numberForm), slowSizes},
	{formOf("cut", numbersForm, numberForm), slowCut},
	{formOf("plan", kindForm, numberForm, numberForm), slowPlan},
	{formOf("long", kindForm, numberForm, numberForm, numberForm, numberForm), slowLong},
	{formOf("peaks", kindForm, numberForm, numberForm), slowPeaks},
	{formOf("sum", rowsForm), slowSum},
	{formOf("learn", valueForm, valueForm, numberForm), slowLearn},
}

func formOf(name string, words ...string) *regexp.Regexp {
	return regexp.MustCompile(`\A` + name + ` ` + strings.Join(words, " ") + `\z`)
}

func slowRun(text string) string {
	if len(text) > 8000 {
		return "too long\n"
	}
	told := ""
	for text != "" {
		line := text
		if end := strings.IndexByte(text, 10); end >= 0 {
			line, text = text[:end], text[end+1:]
		} else {
			text = ""
		}
		told += slowAnswer(line) + "\n"
	}
	return told
}

func slowAnswer(line string) string {
	for _, f := range slowForms {
		if w := f.form.FindStringSubmatch(line); w != nil {
			return f.told(w[1:])
		}
	}
	return "bad"
}

func slowNumber(word string) int {
	n := 0
	for _, digit := range []byte(word) {
		n = 10*n + int(digit-'0')
	}
	return n
}

// slowValue takes the fraction by its word: there is such a value if it is
// whole, 256 times, and not beyond the ends.
func slowValue(word string) (int64, bool) {
	ok, _ := regexp.MatchString(`\A`+valueForm+`\z`, word)
	if !ok || word == "-0" {
		return 0, false
	}
	r, ok := new(big.Rat).SetString(word)
	if !ok {
		return 0, false
	}
	r.Mul(r, big.NewRat(256, 1))
	if !r.IsInt() || r.Num().CmpAbs(big.NewInt(1<<31-1)) > 0 {
		return 0, false
	}
	return r.Num().Int64(), true
}

func slowText(x int64) string {
	text := big.NewRat(x, 256).FloatString(8)
	return strings.TrimSuffix(strings.TrimRight(text, "0"), ".")
}

func slowClamp(x *big.Int) int64 {
	top := big.NewInt(1<<31 - 1)
	if x.CmpAbs(top) <= 0 {
		return x.Int64()
	}
	return int64(x.Sign()) * top.Int64()
}

func slowAdd(a, b int64) int64 { return slowClamp(big.NewInt(a + b)) }

// slowMul shifts, for that rounds down.
func slowMul(a, b int64) int64 {
	x := new(big.Int).Mul(big.NewInt(a), big.NewInt(b))
	return slowClamp(x.Rsh(x, 8))
}

func slowTwo(w []string, both func(a, b int64) int64) string {
	a, aOK := slowValue(w[0])
	b, bOK := slowValue(w[1])
	if !aOK || !bOK {
		return "bad"
	}
	return slowText(both(a, b))
}

func slowSizes(w []string) string {
	rows, parts := slowNumber(w[0]), slowNumber(w[1])
	if rows < 1 || rows > 24 || parts < 1 || parts > 12 {
		return "ErrRange"
	}
	if parts > rows {
		return "ErrShape"
	}
	var l []string
	for ; parts > 0; parts-- {
		// The first of what is left is as great as any: rounded up.
		size := (rows + parts - 1) / parts
		rows -= size
		l = append(l, strconv.Itoa(size))
	}
	return strings.Join(l, ",")
}

func slowCut(w []string) string {
	var costs []int
	if w[0] != "-" {
		for _, word := range strings.Split(w[0], ",") {
			costs = append(costs, slowNumber(word))
		}
	}
	stages := slowNumber(w[1])
	if stages < 1 || stages > 6 || len(costs) < 1 || len(costs) > 12 || slices.Max(costs) > 1000000 {
		return "ErrRange"
	}
	if stages > len(costs) {
		return "ErrShape"
	}
	var best []int
	least := 0
	for _, ends := range slowEnds(len(costs), stages, 0) {
		if dear := slowDearest(costs, ends); best == nil || dear < least {
			best, least = ends, dear
		}
	}
	var l []string
	for _, end := range best {
		l = append(l, strconv.Itoa(end))
	}
	return strings.Join(l, ",") + " " + strconv.Itoa(least)
}

// slowEnds are all cuts of so many layers, from one on, number by number.
func slowEnds(layers, stages, from int) [][]int {
	if stages == 1 {
		return [][]int{{layers}}
	}
	var all [][]int
	for end := from + 1; end <= layers-stages+1; end++ {
		for _, rest := range slowEnds(layers, stages-1, end) {
			all = append(all, append([]int{end}, rest...))
		}
	}
	return all
}

func slowDearest(costs, ends []int) int {
	dearest, from := 0, 0
	for _, end := range ends {
		dear := 0
		for _, cost := range costs[from:end] {
			dear += cost
		}
		dearest, from = max(dearest, dear), end
	}
	return dearest
}

func slowShape(w []string) (stages, parts int, ok bool) {
	stages, parts = slowNumber(w[1]), slowNumber(w[2])
	return stages, parts, stages >= 1 && stages <= 6 && parts >= 1 && parts <= 12
}

// slowPlan gives each act a time, and sorts by it: where a stage is so many
// parts ahead, it goes back with a part when it has gone forward with that many
// more, if there were as many.
func slowPlan(w []string) string {
	stages, parts, ok := slowShape(w)
	if !ok {
		return "ErrRange"
	}
	var l []string
	for stage := range stages {
		ahead := parts
		if w[0] == "turns" {
			ahead = stages - 1 - stage
		}
		times := map[string]int{}
		var acts []string
		for part := range parts {
			there, back := "F"+strconv.Itoa(part), "B"+strconv.Itoa(part)
			times[there], times[back] = 2*part, 2*(part+ahead)+1
			acts = append(acts, there, back)
		}
		sort.Slice(acts, func(i, j int) bool { return times[acts[i]] < times[acts[j]] })
		l = append(l, strings.Join(acts, ","))
	}
	return strings.Join(l, "/")
}

// slowLong goes by C3 of chapter 11.
func slowLong(w []string) string {
	stages, parts, ok := slowShape(w)
	there, back := slowNumber(w[3]), slowNumber(w[4])
	if !ok || there < 1 || there > 1000000 || back < 1 || back > 1000000 {
		return "ErrRange"
	}
	idle := strconv.Itoa((stages - 1) * (there + back))
	return strconv.Itoa((stages+parts-1)*(there+back)) + " " + strings.Join(slices.Repeat([]string{idle}, stages), ",")
}

// slowPeaks goes by K2 of chapter 12.
func slowPeaks(w []string) string {
	stages, parts, ok := slowShape(w)
	if !ok {
		return "ErrRange"
	}
	var l []string
	for stage := range stages {
		most := parts
		if w[0] == "turns" {
			most = min(parts, stages-stage)
		}
		l = append(l, strconv.Itoa(most))
	}
	return strings.Join(l, ",")
}

func slowSum(w []string) string {
	var rows [][]int64
	for _, piece := range strings.Split(w[0], "/") {
		var row []int64
		for _, word := range strings.Split(piece, ",") {
			x, ok := slowValue(word)
			if !ok {
				return "bad"
			}
			row = append(row, x)
		}
		rows = append(rows, row)
	}
	if len(rows) > 6 {
		return "ErrRange"
	}
	for _, row := range rows {
		if len(row) != len(rows[0]) {
			return "ErrShape"
		}
		if len(row) > 60 {
			return "ErrFull"
		}
	}
	var l []string
	for i := range rows[0] {
		l = append(l, slowText(slowSumAt(rows, i)))
	}
	return strings.Join(l, ",")
}

// slowSumAt sums up number i of all workers, from the one behind its piece on.
func slowSumAt(rows [][]int64, i int) int64 {
	count, piece, end := len(rows[0]), 0, 0
	for {
		left := len(rows) - piece
		end += (count - end + left - 1) / left
		if i < end {
			break
		}
		piece++
	}
	first := (piece + 1) % len(rows)
	total := rows[first][i]
	for k := 1; k < len(rows); k++ {
		total = slowAdd(total, rows[(first+k)%len(rows)][i])
	}
	return total
}

// slowLearn has the one number turned, step by step.
func slowLearn(w []string) string {
	in, inOK := slowValue(w[0])
	want, wantOK := slowValue(w[1])
	steps := slowNumber(w[2])
	if !inOK || !wantOK {
		return "bad"
	}
	if steps > 20 {
		return "ErrFull"
	}
	x := int64(256)
	for range steps {
		off := slowAdd(slowMul(in, x), -want)
		x = slowAdd(x, -slowMul(slowMul(in, off), 128))
	}
	return slowText(x)
}

// someWord is one of the first words, mostly, or else one of the others.
func someWord(r *rand.Rand, right, other []string) string {
	if len(other) > 0 && r.Intn(8) == 0 {
		return other[r.Intn(len(other))]
	}
	return right[r.Intn(len(right))]
}

func someNumber(r *rand.Rand) string {
	return someWord(r,
		[]string{"1", "2", "3", "4", "5", "6"},
		[]string{"0", "7", "11", "12", "13", "20", "21", "24", "25", "1000000", "1000001", "999999999",
			"1000000000", "9223372036854775808", "00", "01", "-1", "+1", "-0", "", "-", "1.0", "1_0", "0x1", "1e1"})
}

func someValue(r *rand.Rand) string {
	if r.Intn(2) == 0 {
		bound := int64(1) << r.Intn(32)
		return slowText(r.Int63n(2*bound-1) - bound + 1)
	}
	return someWord(r,
		[]string{"0", "1", "-1", "2", "0.5", "-0.25", "0.00390625", "-0.00390625", "8388607.99609375", "-8388607.99609375"},
		[]string{"8388608", "-8388608", "8388607.99999999", "-0", "1.0", "01", ".5", "1.", "0.001", "+1", "", "-", "1e1"})
}

func someList(r *rand.Rand, count int, between string, one func(r *rand.Rand) string) string {
	var l []string
	for range count {
		l = append(l, one(r))
	}
	return strings.Join(l, between)
}

func someKind(r *rand.Rand) string {
	return someWord(r, []string{"wave", "turns"}, []string{"Wave", "turn", "waves", "", "1", "-"})
}

func someRows(r *rand.Rand) string {
	width := 1 + r.Intn(8)
	return someList(r, 1+r.Intn(7), "/", func(r *rand.Rand) string {
		if r.Intn(30) == 0 {
			return someWord(r, []string{"", "-", "1", "1,", ",1"}, nil)
		}
		return someList(r, width, ",", someValue)
	})
}

func someLine(r *rand.Rand) string {
	switch r.Intn(9) {
	case 0:
		return "add " + someValue(r) + " " + someValue(r)
	case 1:
		return "mul " + someValue(r) + " " + someValue(r)
	case 2:
		return "sizes " + someNumber(r) + " " + someNumber(r)
	case 3:
		if r.Intn(10) == 0 {
			return "cut - " + someNumber(r)
		}
		return "cut " + someList(r, 1+r.Intn(13), ",", someNumber) + " " + someNumber(r)
	case 4:
		return "plan " + someKind(r) + " " + someNumber(r) + " " + someNumber(r)
	case 5:
		return "long " + someKind(r) + " " + someList(r, 4, " ", someNumber)
	case 6:
		return "peaks " + someKind(r) + " " + someNumber(r) + " " + someNumber(r)
	case 7:
		return "sum " + someRows(r)
	}
	return "learn " + someValue(r) + " " + someValue(r) + " " + someNumber(r)
}

// spoilt has a byte put in, taken away or turned, somewhere.
func spoilt(r *rand.Rand, line string) string {
	b := []byte(line)
	at := r.Intn(len(b))
	odd := []byte{' ', ',', '/', '-', '.', '0', '1', '9', 'w', 0, '\t', '\r', 0xc3, 0xff}[r.Intn(14)]
	switch r.Intn(3) {
	case 0:
		b = slices.Insert(b, at, odd)
	case 1:
		b = slices.Delete(b, at, at+1)
	default:
		b[at] = odd
	}
	return string(b)
}

// TestX1AsSlowly: many lines, right, wrong and unreadable, are answered as they
// are by ways of other sorts.
func TestX1AsSlowly(t *testing.T) {
	r := rand.New(rand.NewSource(1))
	told := map[string]int{}
	for range 20000 {
		line := someLine(r)
		if r.Intn(5) == 0 {
			line = spoilt(r, line)
		}
		want := slowAnswer(line)
		if got := Run(line); got != want+"\n" {
			t.Fatalf("Run(%.300q) = %.300q, want %.300q", line, got, want+"\n")
		}
		name, _, _ := strings.Cut(line, " ")
		told[name+" "+sortOf(want)]++
	}
	// All that the table says may be told was told, many a time.
	for _, name := range []string{
		"add told", "mul told", "sizes told", "cut told", "plan told", "long told", "peaks told", "sum told", "learn told",
		"add bad", "mul bad", "sizes bad", "cut bad", "plan bad", "long bad", "peaks bad", "sum bad", "learn bad",
		"sizes ErrRange", "sizes ErrShape", "cut ErrRange", "cut ErrShape", "plan ErrRange", "long ErrRange",
		"peaks ErrRange", "sum ErrRange", "learn ErrFull",
	} {
		if told[name] < 20 {
			t.Errorf("%s: only %d times", name, told[name])
		}
	}
}

func sortOf(answer string) string {
	if answer == "bad" || strings.HasPrefix(answer, "Err") {
		return answer
	}
	return "told"
}

// TestX1TextsAsSlowly: as well of many texts, some of them too long, with and
// without an end of the last line.
func TestX1TextsAsSlowly(t *testing.T) {
	r := rand.New(rand.NewSource(2))
	long := 0
	for range 300 {
		text := someList(r, r.Intn(400), "\n", someLine)
		if r.Intn(2) == 0 {
			text += "\n"
		}
		want := slowRun(text)
		if want == "too long\n" {
			long++
		}
		if got := Run(text); got != want {
			t.Fatalf("Run(%.300q) = %.300q, want %.300q", text, got, want)
		}
	}
	if long < 20 || long > 280 {
		t.Errorf("%d of 300 texts are too long", long)
	}
}
