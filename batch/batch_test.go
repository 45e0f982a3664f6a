package batch

import (
	"fmt"
	"math"
	"math/rand"
	"slices"
	"testing"

	"galley/api"
	"galley/mat"
	"galley/plain"
)

const top = api.Top

// of makes a matrix of what it is told, right or wrong.
func of(rows, cols int, cells ...int) api.Matrix {
	return api.Matrix{Rows: rows, Cols: cols, Cells: cells}
}

// full makes a matrix of which all cells are the same.
func full(rows, cols, x int) api.Matrix {
	return api.Matrix{Rows: rows, Cols: cols, Cells: slices.Repeat([]int{x}, rows*cols)}
}

// counted makes a matrix of which no two cells are the same.
func counted(rows, cols, from int) api.Matrix {
	a := full(rows, cols, from)
	for i := range a.Cells {
		a.Cells[i] += i
	}
	return a
}

// some makes a matrix of any numbers, the ends among them.
func some(r *rand.Rand, rows, cols int) api.Matrix {
	a := full(rows, cols, 0)
	for i := range a.Cells {
		a.Cells[i] = []int{-top, top, 0, r.Intn(2*top+1) - top}[r.Intn(4)]
	}
	return a
}

func someBatch(r *rand.Rand, rows int) api.Batch {
	return both(some(r, rows, r.Intn(api.MaxSide+1)), some(r, rows, r.Intn(api.MaxSide+1)))
}

func both(in, want api.Matrix) api.Batch { return api.Batch{In: in, Want: want} }

// tall is a right batch of so many rows.
func tall(rows int) api.Batch { return both(counted(rows, 2, 100), counted(rows, 1, -100)) }

func batches(l ...api.Batch) []api.Batch { return l }

func same(a, b api.Matrix) bool {
	return a.Rows == b.Rows && a.Cols == b.Cols && slices.Equal(a.Cells, b.Cells)
}

func sameBatch(a, b api.Batch) bool { return same(a.In, b.In) && same(a.Want, b.Want) }

func sameBatches(a, b []api.Batch) bool { return slices.EqualFunc(a, b, sameBatch) }

func mustCheck(t *testing.T, name string, b api.Batch, told api.Errno) {
	t.Helper()
	if got := plain.Told(Check(b)); got != told {
		t.Errorf("%s: Check(%v) = %v, want %v", name, b, got, told)
	}
}

func mustSizes(t *testing.T, rows, parts int, want []int, told api.Errno) {
	t.Helper()
	if got, err := Sizes(rows, parts); !slices.Equal(got, want) || plain.Told(err) != told {
		t.Errorf("Sizes(%d, %d) = %v, %v; want %v, %v", rows, parts, got, err, want, told)
	}
}

func mustSplit(t *testing.T, name string, b api.Batch, parts int, want []api.Batch, told api.Errno) {
	t.Helper()
	if got, err := Split(b, parts); !sameBatches(got, want) || plain.Told(err) != told {
		t.Errorf("%s: Split(%v, %d) = %v, %v; want %v, %v", name, b, parts, got, err, want, told)
	}
}

func mustJoin(t *testing.T, name string, l []api.Batch, want api.Batch, told api.Errno) {
	t.Helper()
	if got, err := Join(l); !sameBatch(got, want) || plain.Told(err) != told {
		t.Errorf("%s: Join(%v) = %v, %v; want %v, %v", name, l, got, err, want, told)
	}
}

// refuseJoin holds that nothing stands beside the error.
func refuseJoin(t *testing.T, name string, l []api.Batch, told api.Errno) {
	t.Helper()
	mustJoin(t, name, l, api.Batch{}, told)
}

// refuse holds that all calls say the same of a batch, Split ahead of what it
// says of parts, and Join of one among right ones.
func refuse(t *testing.T, name string, b api.Batch, told api.Errno) {
	t.Helper()
	mustCheck(t, name, b, told)
	for _, parts := range []int{math.MinInt, -1, 0, 1, 2, 12, 13, math.MaxInt} {
		mustSplit(t, name, b, parts, nil, told)
	}
	refuseJoin(t, name+", alone", batches(b), told)
	refuseJoin(t, name+", first", batches(b, tall(2), tall(2)), told)
	refuseJoin(t, name+", between", batches(tall(2), b, tall(2)), told)
	refuseJoin(t, name+", last", batches(tall(2), tall(2), b), told)
	refuseJoin(t, name+", behind too many rows", batches(tall(24), tall(24), b), told)
	refuseJoin(t, name+", behind other columns", batches(both(full(1, 3, 0), full(1, 3, 0)), tall(1), b), told)
}

type refused struct {
	name string
	a    api.Matrix
	told api.Errno
}

// wrong has matrices that are wrong of themselves.
func wrong() []refused {
	return []refused{
		{"Rows below 0", of(-1, 2, 1, 2), api.ErrRange},
		{"Rows far below 0", of(math.MinInt, 1), api.ErrRange},
		{"Cols below 0", of(2, -1, 1, 2), api.ErrRange},
		{"Rows above MaxRows", full(api.MaxRows+1, 1, 0), api.ErrRange},
		{"Rows above MaxRows, without columns", of(api.MaxRows+1, 0), api.ErrRange},
		{"Cols above MaxSide", full(1, api.MaxSide+1, 0), api.ErrRange},
		{"a product that wraps round", of(1<<32, 1<<32), api.ErrRange},
		{"a cell too few", of(2, 2, 1, 2, 3), api.ErrShape},
		{"a cell too many", of(1, 1, 1, 2), api.ErrShape},
		{"a cell and no rows", of(0, 0, 1), api.ErrShape},
		{"a cell and no columns", of(2, 0, 1), api.ErrShape},
		{"a cell above Top", of(1, 1, top+1), api.ErrRange},
		{"a cell below -Top", of(1, 2, 0, -top-1), api.ErrRange},
		{"a cell far below", of(2, 2, 0, 0, 0, math.MinInt), api.ErrRange},
		{"a cell too few, and one above Top", of(1, 2, top+1), api.ErrShape},
		{"Cols above MaxSide, and no cells", of(1, 13), api.ErrRange},
	}
}

func TestB1CheckTakes(t *testing.T) {
	for _, c := range []struct {
		name string
		b    api.Batch
	}{
		{"one row", both(of(1, 1, 5), of(1, 1, 6))},
		{"MaxRows", tall(api.MaxRows)},
		{"unlike columns", both(full(3, 12, 1), full(3, 1, 2))},
		{"unlike columns, the other way", both(full(3, 1, 1), full(3, 12, 2))},
		{"greatest", both(full(24, 12, 1), full(24, 12, 2))},
		{"no columns in In", both(of(2, 0), full(2, 3, 1))},
		{"no columns in Want", both(full(2, 3, 1), of(2, 0))},
		{"no columns", both(of(1, 0), of(1, 0))},
		{"MaxRows, no columns", both(of(24, 0), of(24, 0))},
		{"cells at the ends", both(of(1, 2, -top, top), of(1, 2, top, -top))},
	} {
		mustCheck(t, c.name, c.b, api.OK)
	}
}

func TestB1WrongOfItself(t *testing.T) {
	for _, w := range wrong() {
		for _, right := range []api.Matrix{of(1, 1, 1), full(2, 2, 1), {}, of(24, 0), full(24, 12, top)} {
			refuse(t, "In: "+w.name, both(w.a, right), w.told)
			refuse(t, "Want: "+w.name, both(right, w.a), w.told)
		}
	}
}

// TestB1InComesFirst: what is wrong with In is told ahead of what is wrong with Want.
func TestB1InComesFirst(t *testing.T) {
	for _, in := range wrong() {
		for _, want := range wrong() {
			refuse(t, in.name+"; "+want.name, both(in.a, want.a), in.told)
		}
	}
}

func TestB1RowsDoNotGoTogether(t *testing.T) {
	for in := range api.MaxRows + 1 {
		for want := range api.MaxRows + 1 {
			if in == want && in > 0 {
				mustCheck(t, "as many", both(full(in, 2, 1), full(want, 1, 1)), api.OK)
				continue
			}
			name := fmt.Sprintf("%d and %d rows", in, want)
			refuse(t, name, both(full(in, 2, 1), full(want, 1, 1)), api.ErrShape)
			refuse(t, name+", no columns", both(of(in, 0), of(want, 0)), api.ErrShape)
		}
	}
	refuse(t, "empty", api.Batch{}, api.ErrShape)
	refuse(t, "empty lists", both(of(0, 0, []int{}...), of(0, 0, []int{}...)), api.ErrShape)
	refuse(t, "no rows, but columns", both(of(0, 12), of(0, 12)), api.ErrShape)
	refuse(t, "as many cells, but not rows", both(full(2, 3, 1), full(3, 2, 1)), api.ErrShape)
}

func TestB2SizesByHand(t *testing.T) {
	for _, c := range []struct {
		rows, parts int
		want        []int
		told        api.Errno
	}{
		{10, 4, []int{3, 3, 2, 2}, api.OK},
		{1, 1, []int{1}, api.OK},
		{24, 1, []int{24}, api.OK},
		{24, 2, []int{12, 12}, api.OK},
		{24, 5, []int{5, 5, 5, 5, 4}, api.OK},
		{24, 7, []int{4, 4, 4, 3, 3, 3, 3}, api.OK},
		{24, 12, []int{2, 2, 2, 2, 2, 2, 2, 2, 2, 2, 2, 2}, api.OK},
		{23, 12, []int{2, 2, 2, 2, 2, 2, 2, 2, 2, 2, 2, 1}, api.OK},
		{13, 12, []int{2, 1, 1, 1, 1, 1, 1, 1, 1, 1, 1, 1}, api.OK},
		{12, 12, []int{1, 1, 1, 1, 1, 1, 1, 1, 1, 1, 1, 1}, api.OK},
		{5, 3, []int{2, 2, 1}, api.OK},
		{4, 3, []int{2, 1, 1}, api.OK},
		{3, 3, []int{1, 1, 1}, api.OK},
		{2, 3, nil, api.ErrShape},
		{1, 2, nil, api.ErrShape},
		{1, 12, nil, api.ErrShape},
		{11, 12, nil, api.ErrShape},
		{0, 1, nil, api.ErrRange},
		{0, 0, nil, api.ErrRange},
		{1, 0, nil, api.ErrRange},
		{-1, 1, nil, api.ErrRange},
		{1, -1, nil, api.ErrRange},
		{-3, -1, nil, api.ErrRange},
		{25, 1, nil, api.ErrRange},
		{25, 12, nil, api.ErrRange},
		{24, 13, nil, api.ErrRange},
		{13, 13, nil, api.ErrRange},
		{25, 13, nil, api.ErrRange},
		// More parts than rows, too; but a number that may not be is told first.
		{2, 13, nil, api.ErrRange},
		{0, 2, nil, api.ErrRange},
		{-5, 3, nil, api.ErrRange},
		{0, 13, nil, api.ErrRange},
	} {
		mustSizes(t, c.rows, c.parts, c.want, c.told)
	}
}

// dealt deals rows out one by one, round and round.
func dealt(rows, parts int) []int {
	sizes := make([]int, parts)
	for i := range rows {
		sizes[i%parts]++
	}
	return sizes
}

// ofSizes is what Sizes has to say, by the chapter's order.
func ofSizes(rows, parts int) api.Errno {
	return firstOf(
		claim{rows < 1 || rows > 24, api.ErrRange},
		claim{parts < 1 || parts > 12, api.ErrRange},
		claim{parts > rows, api.ErrShape})
}

func TestB2SizesOfAll(t *testing.T) {
	var rows, parts []int
	for i := -3; i <= 30; i++ {
		rows, parts = append(rows, i), append(parts, i)
	}
	far := []int{math.MinInt, math.MinInt + 1, -1 << 32, -1 << 31, 1000, 1 << 31, 1 << 32, 1<<32 + 3, math.MaxInt - 1, math.MaxInt}
	for _, n := range append(rows, far...) {
		for _, p := range append(parts, far...) {
			told := ofSizes(n, p)
			var want []int
			if told == api.OK {
				want = dealt(n, p)
			}
			mustSizes(t, n, p, want, told)
		}
	}
}

func TestB2SplitByHand(t *testing.T) {
	b := both(of(5, 2, 1, 2, 3, 4, 5, 6, 7, 8, 9, 10), of(5, 1, -1, -2, -3, -4, -5))
	mustSplit(t, "one part", b, 1, batches(b), api.OK)
	mustSplit(t, "two parts", b, 2, batches(
		both(of(3, 2, 1, 2, 3, 4, 5, 6), of(3, 1, -1, -2, -3)),
		both(of(2, 2, 7, 8, 9, 10), of(2, 1, -4, -5))), api.OK)
	mustSplit(t, "three parts", b, 3, batches(
		both(of(2, 2, 1, 2, 3, 4), of(2, 1, -1, -2)),
		both(of(2, 2, 5, 6, 7, 8), of(2, 1, -3, -4)),
		both(of(1, 2, 9, 10), of(1, 1, -5))), api.OK)
	mustSplit(t, "as many parts as rows", b, 5, batches(
		both(of(1, 2, 1, 2), of(1, 1, -1)), both(of(1, 2, 3, 4), of(1, 1, -2)), both(of(1, 2, 5, 6), of(1, 1, -3)),
		both(of(1, 2, 7, 8), of(1, 1, -4)), both(of(1, 2, 9, 10), of(1, 1, -5))), api.OK)
	mustSplit(t, "one more", b, 6, nil, api.ErrShape)
	mustSplit(t, "MaxMicros", b, 12, nil, api.ErrShape)
	mustSplit(t, "more than MaxMicros", b, 13, nil, api.ErrRange)
	mustSplit(t, "no parts", b, 0, nil, api.ErrRange)
	mustSplit(t, "parts below 0", b, -1, nil, api.ErrRange)
	one := both(of(1, 2, -top, top), of(1, 1, top))
	mustSplit(t, "one row", one, 1, batches(one), api.OK)
	mustSplit(t, "one row, two parts", one, 2, nil, api.ErrShape)
	mustSplit(t, "no columns", both(of(3, 0), of(3, 1, 7, 8, 9)), 2, batches(
		both(of(2, 0), of(2, 1, 7, 8)), both(of(1, 0), of(1, 1, 9))), api.OK)
	mustSplit(t, "no columns at all", both(of(3, 0), of(3, 0)), 2, batches(
		both(of(2, 0), of(2, 0)), both(of(1, 0), of(1, 0))), api.OK)
	mustSplit(t, "rows with columns, but none", both(of(0, 2), of(0, 1)), 1, nil, api.ErrShape)
}

// TestB2BatchComesAheadOfParts: what is wrong with a batch is told first, be
// it that rows and parts alone would be told otherwise.
func TestB2BatchComesAheadOfParts(t *testing.T) {
	mustSplit(t, "no rows, no parts", api.Batch{}, 0, nil, api.ErrShape)
	mustSplit(t, "unlike rows, no parts", both(full(2, 1, 0), full(3, 1, 0)), 0, nil, api.ErrShape)
	mustSplit(t, "a cell, more parts than rows", both(of(1, 1, top+1), of(1, 1, 0)), 2, nil, api.ErrRange)
	mustSplit(t, "Want's cell, more parts than rows", both(of(1, 1, 0), of(1, 1, top+1)), 2, nil, api.ErrRange)
	mustSplit(t, "too few cells, too many parts", both(of(1, 1), of(1, 1, 0)), 13, nil, api.ErrShape)
	mustSplit(t, "too many rows, more parts", both(full(25, 1, 0), full(25, 1, 0)), 26, nil, api.ErrRange)
}

// splitSlowly takes row by row.
func splitSlowly(b api.Batch, parts int) []api.Batch {
	var l []api.Batch
	row := 0
	for _, size := range dealt(b.In.Rows, parts) {
		part := both(of(0, b.In.Cols), of(0, b.Want.Cols))
		for range size {
			addRow(&part.In, b.In, row)
			addRow(&part.Want, b.Want, row)
			row++
		}
		l = append(l, part)
	}
	return l
}

func addRow(to *api.Matrix, a api.Matrix, row int) {
	for j := range a.Cols {
		to.Cells = append(to.Cells, a.Cells[row*a.Cols+j])
	}
	to.Rows++
}

// joinSlowly is asked of such alone as go together.
func joinSlowly(l []api.Batch) api.Batch {
	all := both(of(0, l[0].In.Cols), of(0, l[0].Want.Cols))
	for _, b := range l {
		for row := range b.In.Rows {
			addRow(&all.In, b.In, row)
			addRow(&all.Want, b.Want, row)
		}
	}
	return all
}

func TestB2SplitOfAll(t *testing.T) {
	r := rand.New(rand.NewSource(1))
	for rows := 1; rows <= api.MaxRows; rows++ {
		for parts := -2; parts <= api.MaxRows+2; parts++ {
			for range 5 {
				b := someBatch(r, rows)
				told := ofSizes(rows, parts)
				var want []api.Batch
				if told == api.OK {
					want = splitSlowly(b, parts)
				}
				mustSplit(t, "some", b, parts, want, told)
			}
		}
	}
}

func TestB2JoinByHand(t *testing.T) {
	a := both(of(1, 2, 1, 2), of(1, 1, -1))
	b := both(of(2, 2, 3, 4, 5, 6), of(2, 1, -2, -3))
	refuseJoin(t, "nil", nil, api.ErrShape)
	refuseJoin(t, "an empty list", []api.Batch{}, api.ErrShape)
	mustJoin(t, "one", batches(b), b, api.OK)
	mustJoin(t, "two", batches(a, b), both(of(3, 2, 1, 2, 3, 4, 5, 6), of(3, 1, -1, -2, -3)), api.OK)
	mustJoin(t, "the other way round", batches(b, a), both(of(3, 2, 3, 4, 5, 6, 1, 2), of(3, 1, -2, -3, -1)), api.OK)
	mustJoin(t, "three, not even", batches(a, b, a),
		both(of(4, 2, 1, 2, 3, 4, 5, 6, 1, 2), of(4, 1, -1, -2, -3, -1)), api.OK)
	ends := both(of(1, 1, -top), of(1, 1, top))
	mustJoin(t, "cells at the ends", batches(ends, ends), both(of(2, 1, -top, -top), of(2, 1, top, top)), api.OK)
	mustJoin(t, "no columns in In", batches(both(of(1, 0), of(1, 1, 4)), both(of(2, 0), of(2, 1, 5, 6))),
		both(of(3, 0), of(3, 1, 4, 5, 6)), api.OK)
	mustJoin(t, "no columns in Want", batches(both(of(1, 1, 4), of(1, 0)), both(of(2, 1, 5, 6), of(2, 0))),
		both(of(3, 1, 4, 5, 6), of(3, 0)), api.OK)
	mustJoin(t, "no columns", batches(both(of(1, 0), of(1, 0)), both(of(2, 0), of(2, 0))), both(of(3, 0), of(3, 0)), api.OK)
}

func TestB2JoinHowManyRows(t *testing.T) {
	one, none := tall(1), both(of(1, 0), of(1, 0))
	for count := 1; count <= api.MaxRows+3; count++ {
		l, without := slices.Repeat(batches(one), count), slices.Repeat(batches(none), count)
		name := fmt.Sprint(count, " batches of a row")
		if count > api.MaxRows {
			refuseJoin(t, name, l, api.ErrFull)
			refuseJoin(t, name+", no columns", without, api.ErrFull)
			continue
		}
		mustJoin(t, name, l, joinSlowly(l), api.OK)
		mustJoin(t, name+", no columns", without, both(of(count, 0), of(count, 0)), api.OK)
	}
	for first := 1; first <= api.MaxRows; first++ {
		for second := 1; second <= api.MaxRows; second++ {
			l := batches(tall(first), tall(second))
			name := fmt.Sprint(first, " and ", second, " rows")
			if first+second > api.MaxRows {
				refuseJoin(t, name, l, api.ErrFull)
				continue
			}
			mustJoin(t, name, l, joinSlowly(l), api.OK)
		}
	}
	mustJoin(t, "MaxRows in one", batches(tall(24)), tall(24), api.OK)
	refuseJoin(t, "many", slices.Repeat(batches(tall(24)), 10000), api.ErrFull)
}

func TestB2JoinColumnsDiffer(t *testing.T) {
	a := both(full(2, 2, 1), full(2, 3, 1))
	for cols := range api.MaxSide + 1 {
		in, want := both(full(1, cols, 1), full(1, 3, 1)), both(full(1, 2, 1), full(1, cols, 1))
		if cols != 2 {
			refuseJoin(t, "In, last", batches(a, a, in), api.ErrShape)
			refuseJoin(t, "In, first", batches(in, a, a), api.ErrShape)
			refuseJoin(t, "In, between", batches(a, in, a), api.ErrShape)
		}
		if cols != 3 {
			refuseJoin(t, "Want, last", batches(a, a, want), api.ErrShape)
			refuseJoin(t, "Want, first", batches(want, a, a), api.ErrShape)
			refuseJoin(t, "Want, between", batches(a, want, a), api.ErrShape)
		}
	}
	// In and Want are stacked each for itself.
	refuseJoin(t, "In and Want swapped", batches(a, both(a.Want, a.In)), api.ErrShape)
}

func TestB2JoinWhatComesFirst(t *testing.T) {
	right := both(full(1, 2, 1), full(1, 1, 1))
	otherIn, otherWant := both(full(1, 3, 1), full(1, 1, 1)), both(full(1, 2, 1), full(1, 3, 1))
	badCell, badWant := both(of(1, 2, 0, top+1), of(1, 1, 0)), both(of(1, 2, 0, 0), of(1, 1, -top-1))
	fewCells, fewWant := both(of(1, 2, 0), of(1, 1, 0)), both(of(1, 2, 0, 0), of(1, 1))
	unlike := both(full(1, 2, 1), full(2, 1, 1))
	for _, c := range []struct {
		name string
		l    []api.Batch
		told api.Errno
	}{
		{"the first one's In, the second one's In", batches(fewCells, badCell), api.ErrShape},
		{"the first one's In, the second one's In, the other way", batches(badCell, fewCells), api.ErrRange},
		{"the first one's Want, the second one's In", batches(fewWant, badCell), api.ErrShape},
		{"the first one's Want, the second one's In, the other way", batches(badWant, fewCells), api.ErrRange},
		{"the first one's rows, the second one's cell", batches(unlike, badCell), api.ErrShape},
		{"the first one's cell, the second one's rows", batches(badWant, unlike), api.ErrRange},
		{"no rows, then a cell", batches(api.Batch{}, badCell), api.ErrShape},
		{"a cell, then no rows", batches(badCell, api.Batch{}), api.ErrRange},
		{"In's columns, and a cell behind", batches(right, otherIn, badCell), api.ErrRange},
		{"In's columns, and Want's cell behind", batches(right, otherIn, badWant), api.ErrRange},
		{"Want's columns, and a cell behind", batches(right, otherWant, badCell), api.ErrRange},
		{"too many rows, and a cell behind", append(slices.Repeat(batches(right), 25), badCell), api.ErrRange},
		{"too many rows, and unlike rows behind", append(slices.Repeat(batches(right), 25), unlike), api.ErrShape},
		{"too many rows, and In's columns", append(slices.Repeat(batches(right), 25), otherIn), api.ErrShape},
		{"In's columns, and too many rows", append(batches(otherIn), slices.Repeat(batches(right), 25)...), api.ErrShape},
		{"too many rows, and Want's columns", append(slices.Repeat(batches(right), 25), otherWant), api.ErrFull},
		{"Want's columns, and too many rows", append(batches(otherWant), slices.Repeat(batches(right), 25)...), api.ErrFull},
		{"Want's columns, and just MaxRows rows", append(batches(otherWant), slices.Repeat(batches(right), 23)...), api.ErrShape},
		{"too many rows, and both columns", append(slices.Repeat(batches(right), 25), otherWant, otherIn), api.ErrShape},
	} {
		refuseJoin(t, c.name, c.l, c.told)
	}
}

func TestB2JoinOfSome(t *testing.T) {
	r := rand.New(rand.NewSource(2))
	for range 2000 {
		ins, wants, left := r.Intn(13), r.Intn(13), api.MaxRows
		var l []api.Batch
		for left > 0 && (len(l) == 0 || r.Intn(6) > 0) {
			rows := 1 + r.Intn(min(left, 6))
			l, left = append(l, both(some(r, rows, ins), some(r, rows, wants))), left-rows
		}
		mustJoin(t, "some", l, joinSlowly(l), api.OK)
	}
}

// TestB3SplitAndJoined: the same, whatever the parts; and so by parts of parts.
func TestB3SplitAndJoined(t *testing.T) {
	r := rand.New(rand.NewSource(3))
	for rows := 1; rows <= api.MaxRows; rows++ {
		for parts := 1; parts <= min(rows, api.MaxMicros); parts++ {
			b := someBatch(r, rows)
			l, err := Split(b, parts)
			if err != nil || len(l) != parts {
				t.Fatalf("Split(%v, %d) = %v, %v", b, parts, l, err)
			}
			mustJoin(t, "split", l, b, api.OK)
			for i, part := range l {
				mustCheck(t, "a part", part, api.OK)
				again, err := Split(part, 1+r.Intn(min(part.In.Rows, api.MaxMicros)))
				if err != nil {
					t.Fatal(err)
				}
				mustJoin(t, "a part of a part", again, part, api.OK)
				mustJoin(t, "parts of a part", slices.Concat(l[:i], again, l[i+1:]), b, api.OK)
			}
		}
	}
}

// TestB3Even: no two parts are more than a row apart, the greater ones are
// first, and all rows are there; of Sizes and of Split.
func TestB3Even(t *testing.T) {
	for rows := 1; rows <= api.MaxRows; rows++ {
		for parts := 1; parts <= min(rows, api.MaxMicros); parts++ {
			sizes, err := Sizes(rows, parts)
			if err != nil || len(sizes) != parts {
				t.Fatalf("Sizes(%d, %d) = %v, %v", rows, parts, sizes, err)
			}
			sum := 0
			for i, size := range sizes {
				sum += size
				if size < 1 || i > 0 && size > sizes[i-1] || sizes[0]-size > 1 {
					t.Errorf("Sizes(%d, %d) = %v", rows, parts, sizes)
				}
			}
			if sum != rows {
				t.Errorf("Sizes(%d, %d) = %v have %d rows", rows, parts, sizes, sum)
			}
			l, err := Split(tall(rows), parts)
			var got []int
			for _, part := range l {
				got = append(got, part.Want.Rows)
			}
			if !slices.Equal(got, sizes) || err != nil {
				t.Errorf("Split of %d rows, %d parts: sizes %v, %v; want %v", rows, parts, got, err, sizes)
			}
		}
	}
}

type claim struct {
	holds bool
	told  api.Errno
}

// firstOf gives what is told first, or OK.
func firstOf(claims ...claim) api.Errno {
	for _, c := range claims {
		if c.holds && c.told != api.OK {
			return c.told
		}
	}
	return api.OK
}

func wrongOfItself(a api.Matrix) claim { return claim{true, plain.Told(mat.Check(a))} }

func ofBatch(b api.Batch) api.Errno {
	return firstOf(wrongOfItself(b.In), wrongOfItself(b.Want),
		claim{b.In.Rows != b.Want.Rows, api.ErrShape}, claim{b.In.Rows == 0, api.ErrShape})
}

func ofJoin(l ...api.Batch) api.Errno {
	claims := []claim{{len(l) == 0, api.ErrShape}}
	inCols, wantCols, rows := false, false, 0
	for _, b := range l {
		claims = append(claims, claim{true, ofBatch(b)})
		inCols = inCols || b.In.Cols != l[0].In.Cols
		wantCols = wantCols || b.Want.Cols != l[0].Want.Cols
		rows += b.In.Rows
	}
	return firstOf(append(claims, claim{inCols, api.ErrShape}, claim{rows > 24, api.ErrFull}, claim{wantCols, api.ErrShape})...)
}

// doubtful has matrices of all sorts, right and wrong of themselves.
func doubtful() []api.Matrix {
	return []api.Matrix{
		{}, of(0, 2), of(1, 0), of(24, 0), of(1, 1, 256), of(1, 2, -1, 1), of(2, 1, 3, top), full(12, 1, 4), full(13, 2, 5),
		full(24, 1, -top), of(1, 2, 1), of(1, 1, top+1), of(-1, 0), full(25, 1, 0),
	}
}

// TestRuleP1AllSorts asks all calls of all that can be put together of
// doubtful ones, and holds them against the chapter's order of what is told.
func TestRuleP1AllSorts(t *testing.T) {
	var all []api.Batch
	for _, in := range doubtful() {
		for _, want := range doubtful() {
			all = append(all, both(in, want))
		}
	}
	for _, b := range all {
		told := ofBatch(b)
		mustCheck(t, "all sorts", b, told)
		for parts := -1; parts <= 26; parts++ {
			first := firstOf(claim{true, told}, claim{true, ofSizes(b.In.Rows, parts)})
			var want []api.Batch
			if first == api.OK {
				want = splitSlowly(b, parts)
			}
			mustSplit(t, "all sorts", b, parts, want, first)
		}
		for _, c := range all {
			mustJoinAsTold(t, b, c)
			mustJoinAsTold(t, b, c, b)
			mustJoinAsTold(t, b, tall(1), c)
		}
	}
}

func mustJoinAsTold(t *testing.T, l ...api.Batch) {
	t.Helper()
	told, want := ofJoin(l...), api.Batch{}
	if told == api.OK {
		want = joinSlowly(l)
	}
	mustJoin(t, "all sorts", l, want, told)
}
