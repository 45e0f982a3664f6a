package loss

import (
	"fmt"
	"math"
	"math/big"
	"math/rand"
	"slices"
	"testing"

	"galley/api"
	"galley/plain"
)

const (
	top = api.Top
	// the half of Top, rounded down: no loss is greater
	most = 1<<30 - 1
)

// of makes a matrix of what it is told, right or wrong.
func of(rows, cols int, cells ...int) api.Matrix {
	return api.Matrix{Rows: rows, Cols: cols, Cells: cells}
}

// full makes a matrix of which all cells are the same.
func full(rows, cols, x int) api.Matrix {
	return api.Matrix{Rows: rows, Cols: cols, Cells: slices.Repeat([]int{x}, rows*cols)}
}

// some makes a matrix of small numbers, or of such that something comes to an end.
func some(r *rand.Rand, rows, cols int) api.Matrix {
	a := full(rows, cols, 0)
	bound := []int{3, 20, 1000, 1 << 19, 1 << 20, top}[r.Intn(6)]
	for i := range a.Cells {
		a.Cells[i] = r.Intn(2*bound+1) - bound
	}
	return a
}

func same(a, b api.Matrix) bool {
	return a.Rows == b.Rows && a.Cols == b.Cols && slices.Equal(a.Cells, b.Cells)
}

func mustOf(t *testing.T, name string, got, want api.Matrix, far int, told api.Errno) {
	t.Helper()
	if n, err := Of(got, want); n != far || plain.Told(err) != told {
		t.Errorf("%s: Of(%v, %v) = %d, %v; want %d, %v", name, got, want, n, err, far, told)
	}
}

func mustBack(t *testing.T, name string, got, want, back api.Matrix, told api.Errno) {
	t.Helper()
	if m, err := Back(got, want); !same(m, back) || plain.Told(err) != told {
		t.Errorf("%s: Back(%v, %v) = %v, %v; want %v, %v", name, got, want, m, err, back, told)
	}
}

// mustRefuse holds that both calls say the same, and that nothing stands beside it.
func mustRefuse(t *testing.T, name string, got, want api.Matrix, told api.Errno) {
	t.Helper()
	mustOf(t, name, got, want, 0, told)
	mustBack(t, name, got, want, api.Matrix{}, told)
}

type refused struct {
	name string
	a    api.Matrix
	told api.Errno
}

// wrong has matrices that are wrong of themselves.
func wrong() []refused {
	return []refused{
		{"Rows below 0", of(-1, 2, 1, 2), api.ErrRange},
		{"Cols below 0", of(2, -1, 1, 2), api.ErrRange},
		{"both below 0, as many cells", of(-1, -2, 1, 2), api.ErrRange},
		{"Rows above MaxRows", full(api.MaxRows+1, 1, 0), api.ErrRange},
		{"Rows above MaxRows, no cells", of(api.MaxRows+1, 0), api.ErrRange},
		{"Cols above MaxSide", full(1, api.MaxSide+1, 0), api.ErrRange},
		{"Cols above MaxSide, no cells", of(0, api.MaxSide+1), api.ErrRange},
		{"a product that wraps round to 0", of(1<<32, 1<<32), api.ErrRange},
		{"a cell too few", of(1, 2, 1), api.ErrShape},
		{"a cell too many", of(1, 2, 1, 2, 3), api.ErrShape},
		{"no cells", of(1, 2), api.ErrShape},
		{"a cell and no rows", of(0, 2, 1), api.ErrShape},
		{"a cell of the empty matrix", of(0, 0, 1), api.ErrShape},
		{"a cell above Top", of(1, 2, 0, top+1), api.ErrRange},
		{"a cell below -Top", of(1, 2, -top-1, 0), api.ErrRange},
		{"a cell far above", of(1, 1, math.MaxInt), api.ErrRange},
		{"a cell far below", of(1, 1, math.MinInt), api.ErrRange},
		{"a cell too few, and one above Top", of(1, 2, top+1), api.ErrShape},
		{"Cols, and a cell too few", of(1, api.MaxSide+1, 1), api.ErrRange},
	}
}

// good has matrices with which nothing is wrong, no two of the same shape.
func good() []api.Matrix {
	return []api.Matrix{
		{}, of(0, 1), of(1, 0), of(0, 2), of(2, 0), of(0, api.MaxSide), of(api.MaxRows, 0),
		of(1, 1, 5), of(1, 2, 5, 6), of(2, 1, 5, 6), full(2, 3, top), full(3, 2, -top),
		full(1, 6, 1), full(6, 1, 1), full(12, 12, 9), full(24, 6, 9), full(24, 12, 9),
	}
}

func TestS1TheChapters(t *testing.T) {
	got, want := of(1, 2, 512, 0), of(1, 2, 256, 256)
	mustOf(t, "the chapter's", got, want, 256, api.OK)
	mustBack(t, "the chapter's", got, want, of(1, 2, 256, -256), api.OK)
}

func TestS1Of(t *testing.T) {
	for _, c := range []struct {
		name      string
		got, want api.Matrix
		far       int
	}{
		{"one cell", of(1, 1, 256), of(1, 1, 0), 128},
		{"one cell, the other way", of(1, 1, 0), of(1, 1, 256), 128},
		{"below 0", of(1, 1, -256), of(1, 1, 256), 512},
		{"more rows", of(3, 2, 256, 0, 0, 512, 0, 0), full(3, 2, 0), 640},
		{"empty", api.Matrix{}, api.Matrix{}, 0},
		{"no rows", of(0, 12), of(0, 12), 0},
		{"no columns", of(24, 0), of(24, 0), 0},
		{"an empty list and none", of(3, 0), api.Matrix{Rows: 3, Cells: []int{}}, 0},
		{"the square just below 1", of(1, 1, 15), of(1, 1, 0), 0},
		{"each square rounded down of itself", full(24, 12, 15), full(24, 12, 0), 0},
		{"the half rounded down", of(1, 1, 22), of(1, 1, 0), 0},
		{"the least that counts", of(1, 1, 23), of(1, 1, 0), 1},
		{"the half of all, not of each", of(1, 2, 16, -16), of(1, 2, 0, 0), 1},
		{"an odd sum", of(1, 3, 16, 0, 16), of(1, 3, 0, 16, 0), 1},
		{"many small ones", full(24, 12, 16), full(24, 12, 0), 144},
		{"the last square below the end", of(1, 1, 741455), of(1, 1, 0), 1073741244},
		{"the first square at the end", of(1, 1, 741456), of(1, 1, 0), most},
		{"the same by a wide difference", of(1, 1, -370728), of(1, 1, 370728), most},
		{"a difference at the end", of(1, 1, top), of(1, 1, -top), most},
		{"the other end", of(1, 1, -top), of(1, 1, top), most},
		{"a sum at the end ahead of the half", of(1, 2, 741455, 0), of(1, 2, 0, 741455), most},
		{"a sum stays at the end", of(2, 2, top, 741455, 256, 1), full(2, 2, 0), most},
		{"a sum that comes to the end last", of(2, 2, 1, 256, 741455, 741455), full(2, 2, 0), most},
		{"all at the ends", full(24, 12, top), full(24, 12, -top), most},
		{"all at the same end", full(24, 12, -top), full(24, 12, -top), 0},
	} {
		mustOf(t, c.name, c.got, c.want, c.far, api.OK)
	}
}

func TestS1Back(t *testing.T) {
	for _, c := range []struct {
		name            string
		got, want, back api.Matrix
	}{
		{"one cell", of(1, 1, 7), of(1, 1, 3), of(1, 1, 4)},
		{"one cell, the other way", of(1, 1, 3), of(1, 1, 7), of(1, 1, -4)},
		{"row by row", of(2, 3, 1, 2, 3, 4, 5, 6), of(2, 3, 10, 20, 30, 40, 50, 60), of(2, 3, -9, -18, -27, -36, -45, -54)},
		{"column", of(3, 1, 1, 2, 3), of(3, 1, 0, 0, 5), of(3, 1, 1, 2, -2)},
		{"too small to count is told", of(1, 2, 1, 0), of(1, 2, 0, 1), of(1, 2, 1, -1)},
		{"empty", api.Matrix{}, api.Matrix{}, api.Matrix{}},
		{"no rows", of(0, 12), of(0, 12), of(0, 12)},
		{"no columns", of(24, 0), of(24, 0), of(24, 0)},
		{"an empty list and none", of(3, 0), api.Matrix{Rows: 3, Cells: []int{}}, of(3, 0)},
		{"up to the ends", of(1, 2, top, -top), of(1, 2, 0, 0), of(1, 2, top, -top)},
		{"beyond the ends", of(1, 4, top, -top, 1, -1), of(1, 4, -top, top, -top, top), of(1, 4, top, -top, top, -top)},
		{"just within", of(1, 2, 1, -1), of(1, 2, -top+1, top-1), of(1, 2, top, -top)},
		{"greatest", full(24, 12, 9), full(24, 12, 4), full(24, 12, 5)},
		{"greatest at the ends", full(24, 12, -top), full(24, 12, top), full(24, 12, -top)},
	} {
		mustBack(t, c.name, c.got, c.want, c.back, api.OK)
	}
}

func TestS1WrongOfItself(t *testing.T) {
	for _, c := range wrong() {
		mustRefuse(t, "both the same: "+c.name, c.a, c.a, c.told)
		for _, a := range good() {
			mustRefuse(t, "got: "+c.name, c.a, a, c.told)
			mustRefuse(t, "want: "+c.name, a, c.a, c.told)
		}
		for _, d := range wrong() {
			mustRefuse(t, "got: "+c.name+"; want: "+d.name, c.a, d.a, c.told)
		}
	}
}

func TestS1NotTheSameShape(t *testing.T) {
	for i, a := range good() {
		for j, b := range good() {
			if i != j {
				mustRefuse(t, "shapes", a, b, api.ErrShape)
			} else if far, err := Of(a, b); far != 0 || err != nil {
				t.Errorf("Of(%v, %v) = %d, %v; want 0, nil", a, b, far, err)
			}
		}
	}
}

func ended(x *big.Int) *big.Int {
	end := big.NewInt(top)
	if x.CmpAbs(end) > 0 {
		x.Mul(end, big.NewInt(int64(x.Sign())))
	}
	return x
}

// exact is what S1 says, by big numbers: of Back's cells, and of Of.
func exact(got, want api.Matrix) (api.Matrix, int) {
	back := full(got.Rows, got.Cols, 0)
	sum := new(big.Int)
	for i := range back.Cells {
		d := ended(new(big.Int).Sub(big.NewInt(int64(got.Cells[i])), big.NewInt(int64(want.Cells[i]))))
		back.Cells[i] = int(d.Int64())
		ended(sum.Add(sum, ended(d.Rsh(d.Mul(d, d), 8))))
	}
	return back, int(sum.Rsh(sum, 1).Int64())
}

func TestS1ToTheLastBit(t *testing.T) {
	r := rand.New(rand.NewSource(1))
	for range 3000 {
		rows, cols := r.Intn(api.MaxRows+1), r.Intn(api.MaxSide+1)
		if r.Intn(2) == 0 {
			rows, cols = r.Intn(3), r.Intn(3)
		}
		got, want := some(r, rows, cols), some(r, rows, cols)
		back, far := exact(got, want)
		mustOf(t, "some", got, want, far, api.OK)
		mustBack(t, "some", got, want, back, api.OK)
	}
}

// edges are numbers around which something ends or is rounded.
func edges() []int {
	return []int{
		-top, -top + 1, -1 << 30, -741456, -741455, -370728, -256, -23, -22, -16, -15, -1,
		0, 1, 15, 16, 22, 23, 256, 370728, 741455, 741456, 1 << 30, top - 1, top,
	}
}

func TestS1AtEdges(t *testing.T) {
	for _, x := range edges() {
		for _, y := range edges() {
			got, want := of(1, 3, x, y, x), of(1, 3, y, x, 0)
			back, far := exact(got, want)
			mustOf(t, "edges", got, want, far, api.OK)
			mustBack(t, "edges", got, want, back, api.OK)
		}
	}
}

func TestS2NeverBelowNothing(t *testing.T) {
	r := rand.New(rand.NewSource(2))
	for range 1000 {
		got := some(r, r.Intn(25), r.Intn(13))
		want := some(r, got.Rows, got.Cols)
		far, err := Of(got, want)
		if far < 0 || err != nil {
			t.Errorf("Of(%v, %v) = %d, %v; want none below 0", got, want, far, err)
		}
		mustOf(t, "the other way round", want, got, far, api.OK)
		mustOf(t, "as wanted", got, got, 0, api.OK)
		mustBack(t, "as wanted", got, got, full(got.Rows, got.Cols, 0), api.OK)
	}
}

// nearEnough holds of cells that are off by less than 16, but for one at most
// that is off by less than 23: more would sum up to 2.
func nearEnough(off ...int) bool {
	further := 0
	for _, d := range off {
		d = max(d, -d)
		if d >= 23 {
			return false
		}
		if d >= 16 {
			further++
		}
	}
	return further <= 1
}

func TestS2NothingJustIfNear(t *testing.T) {
	for x := -40; x <= 40; x++ {
		for y := -40; y <= 40; y++ {
			got, want := of(3, 1, 1000+x, y, 4), of(3, 1, 1000, 0, 4)
			far, err := Of(got, want)
			if (far == 0) != nearEnough(x, y) || err != nil {
				t.Errorf("Of(%v, %v) = %d, %v; near enough: %v", got, want, far, err, nearEnough(x, y))
			}
		}
	}
	one := full(24, 12, 15)
	one.Cells[len(one.Cells)-1] = 22
	mustOf(t, "all near enough", one, full(24, 12, 0), 0, api.OK)
	one.Cells[0] = 16
	mustOf(t, "one more that is not", one, full(24, 12, 0), 1, api.OK)
}

func TestS2BackTheOtherWayRound(t *testing.T) {
	r := rand.New(rand.NewSource(3))
	for range 1000 {
		got := some(r, r.Intn(25), r.Intn(13))
		want := some(r, got.Rows, got.Cols)
		less, err := Back(want, got)
		if err != nil {
			t.Fatal(err)
		}
		for i := range less.Cells {
			less.Cells[i] = -less.Cells[i]
		}
		mustBack(t, "the other way round", got, want, less, api.OK)
	}
}

// TestP2ListsStay: what is handed in is not written into, nor what lies behind
// it, and what comes out shares no memory with it or with another answer.
func TestP2ListsStay(t *testing.T) {
	for _, cells := range []int{0, 1, 2, 12} {
		left, right := make([]int, cells+4), make([]int, cells+4)
		for i := range left {
			left[i], right[i] = 100*i, 7*i+1
		}
		// What lies behind is no number: whoever read it would be off.
		left[cells], right[cells] = math.MaxInt, math.MinInt
		keptLeft, keptRight := slices.Clone(left), slices.Clone(right)
		got, want := of(1, cells, left[:cells]...), of(1, cells, right[:cells]...)
		first, err := Back(got, want)
		if err != nil {
			t.Fatal(err)
		}
		kept := slices.Clone(first.Cells)
		second, _ := Back(got, want)
		if _, err := Of(got, want); err != nil {
			t.Fatal(err)
		}
		for i := range second.Cells {
			second.Cells[i] = -7
		}
		_ = append(second.Cells, -7, -7)
		if !slices.Equal(left, keptLeft) || !slices.Equal(right, keptRight) {
			t.Errorf("%d cells: the lists that were handed in became %v, %v", cells, left, right)
		}
		if !slices.Equal(first.Cells, kept) {
			t.Errorf("%d cells: two answers share memory", cells)
		}
		for i := range left {
			left[i], right[i] = -9, -9
		}
		if !slices.Equal(first.Cells, kept) {
			t.Errorf("%d cells: the answer shares memory with what was handed in", cells)
		}
	}
}

// TestP2TheSameListTwice: got and want may be one list.
func TestP2TheSameListTwice(t *testing.T) {
	a := of(2, 2, top, -top, 3, 4)
	mustBack(t, "the same list", a, a, full(2, 2, 0), api.OK)
	mustOf(t, "the same list", a, a, 0, api.OK)
	part := api.Matrix{Rows: 1, Cols: 3, Cells: a.Cells[:3]}
	next := api.Matrix{Rows: 1, Cols: 3, Cells: a.Cells[1:]}
	mustBack(t, "lists that overlap", part, next, of(1, 3, top, -top, -1), api.OK)
	if !same(a, of(2, 2, top, -top, 3, 4)) {
		t.Errorf("the list that was handed in became %v", a)
	}
}

// TestP2RefusedListsStay: nor is anything written where it goes wrong.
func TestP2RefusedListsStay(t *testing.T) {
	for _, c := range wrong() {
		before := fmt.Sprint(c.a)
		a := of(1, 2, 5, 6)
		for _, call := range []func(got, want api.Matrix) (api.Matrix, error){
			Back,
			func(got, want api.Matrix) (api.Matrix, error) {
				_, err := Of(got, want)
				return api.Matrix{}, err
			},
		} {
			_, first := call(c.a, a)
			_, second := call(a, c.a)
			if first == nil || second == nil || fmt.Sprint(c.a) != before || !same(a, of(1, 2, 5, 6)) {
				t.Errorf("%s: became %v beside %v (%v, %v)", c.name, c.a, a, first, second)
			}
		}
	}
}
