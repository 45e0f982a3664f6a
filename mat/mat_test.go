package mat

import (
	"fmt"
	"math"
	"math/big"
	"math/rand"
	"slices"
	"testing"

	"galley/api"
	"galley/plain"
)

// of makes a matrix of what it is told, right or wrong.
func of(rows, cols int, cells ...int) api.Matrix {
	return api.Matrix{Rows: rows, Cols: cols, Cells: cells}
}

// full makes a matrix of which all cells are the same.
func full(rows, cols, x int) api.Matrix {
	return api.Matrix{Rows: rows, Cols: cols, Cells: slices.Repeat([]int{x}, rows*cols)}
}

// counted makes a matrix of which no two cells are the same.
func counted(rows, cols, first int) api.Matrix {
	a := full(rows, cols, first)
	for i := range a.Cells {
		a.Cells[i] += i
	}
	return a
}

// some makes a matrix of small numbers, or of such that sums come to an end.
func some(r *rand.Rand, rows, cols int) api.Matrix {
	a := full(rows, cols, 0)
	bound := []int{3, 1000, 1 << 20, api.Top}[r.Intn(4)]
	for i := range a.Cells {
		a.Cells[i] = r.Intn(2*bound+1) - bound
	}
	return a
}

func same(a, b api.Matrix) bool {
	return a.Rows == b.Rows && a.Cols == b.Cols && slices.Equal(a.Cells, b.Cells)
}

func copyOf(a api.Matrix) api.Matrix {
	a.Cells = slices.Clone(a.Cells)
	return a
}

// must holds what came out against what ought to; beside an error it is the empty matrix.
func must(t *testing.T, name string, got api.Matrix, err error, want api.Matrix, told api.Errno) {
	t.Helper()
	if plain.Told(err) != told || !same(got, want) {
		t.Errorf("%s: got %v, %v; want %v, %v", name, got, err, want, told)
	}
}

// right is for steps of a longer reckoning, of which none is to go wrong.
func right(t *testing.T) func(a api.Matrix, err error) api.Matrix {
	return func(a api.Matrix, err error) api.Matrix {
		t.Helper()
		if err != nil {
			t.Fatal(err)
		}
		return a
	}
}

type refused struct {
	name string
	a    api.Matrix
	told api.Errno
}

// wrong has matrices that Check refuses, and what it says of each.
func wrong() []refused {
	return []refused{
		{"Rows below 0", of(-1, 2, 1, 2), api.ErrRange},
		{"Cols below 0", of(2, -1, 1, 2), api.ErrRange},
		{"both below 0, as many cells", of(-1, -2, 1, 2), api.ErrRange},
		{"Rows above MaxRows", full(api.MaxRows+1, 1, 0), api.ErrRange},
		{"Rows above MaxRows, no cells", of(api.MaxRows+1, 0), api.ErrRange},
		{"Cols above MaxSide", full(1, api.MaxSide+1, 0), api.ErrRange},
		{"Cols above MaxSide, no cells", of(0, api.MaxSide+1), api.ErrRange},
		{"Rows far below", of(math.MinInt, 1), api.ErrRange},
		{"Rows and Cols whose product wraps round to 0", of(1<<32, 1<<32), api.ErrRange},
		{"one cell too few", of(2, 2, 1, 2, 3), api.ErrShape},
		{"one cell too many", of(2, 2, 1, 2, 3, 4, 5), api.ErrShape},
		{"no cells", of(1, 1), api.ErrShape},
		{"a cell and no rows", of(0, 1, 1), api.ErrShape},
		{"a cell and no columns", of(1, 0, 1), api.ErrShape},
		{"a cell of the empty matrix", of(0, 0, 1), api.ErrShape},
		{"a cell above Top", of(1, 2, 0, api.Top+1), api.ErrRange},
		{"a cell below -Top", of(1, 2, -api.Top-1, 0), api.ErrRange},
		{"a cell far above", of(1, 1, math.MaxInt), api.ErrRange},
		{"a cell far below", of(1, 1, math.MinInt), api.ErrRange},
		{"Cols, then not so many cells", of(1, api.MaxSide+1, 1), api.ErrRange},
		{"not so many cells, then a cell", of(1, 2, api.Top+1), api.ErrShape},
		{"Rows, then not so many cells, then a cell", of(-1, 2, api.Top+1), api.ErrRange},
	}
}

func TestM1CheckTakes(t *testing.T) {
	for _, a := range []api.Matrix{
		{}, {Cells: []int{}}, of(0, api.MaxSide), of(api.MaxRows, 0), of(3, 0), of(0, 3), of(1, 1, 0),
		of(1, 2, -api.Top, api.Top), of(2, 3, 1, 2, 3, 4, 5, 6),
		full(api.MaxSide, api.MaxSide, api.Top), full(api.MaxSide+1, api.MaxSide, 1), full(api.MaxRows, api.MaxSide, -api.Top),
	} {
		if err := Check(a); err != nil {
			t.Errorf("Check(%v) = %v, want nil", a, err)
		}
	}
}

func TestM1CheckRefuses(t *testing.T) {
	for _, c := range wrong() {
		if got := plain.Told(Check(c.a)); got != c.told {
			t.Errorf("%s: Check(%v) = %v, want %v", c.name, c.a, got, c.told)
		}
	}
}

// TestM1OfOne: whoever has one matrix says what Check says of it, ahead of anything else.
func TestM1OfOne(t *testing.T) {
	for name, call := range map[string]func(a api.Matrix) (api.Matrix, error){
		"Turn":       Turn,
		"Times":      func(a api.Matrix) (api.Matrix, error) { return Times(a, 256) },
		"Sums":       Sums,
		"Rows":       func(a api.Matrix) (api.Matrix, error) { return Rows(a, 0, 0) },
		"Rows wrong": func(a api.Matrix) (api.Matrix, error) { return Rows(a, 2, 1) },
		"Stack":      func(a api.Matrix) (api.Matrix, error) { return Stack([]api.Matrix{a}) },
	} {
		for _, c := range wrong() {
			got, err := call(c.a)
			must(t, name+": "+c.name, got, err, api.Matrix{}, c.told)
		}
	}
	a := full(api.MaxSide+1, 1, 0)
	a.Cells = a.Cells[1:]
	got, err := Turn(a)
	must(t, "Turn: not so many cells, then more rows than MaxSide", got, err, api.Matrix{}, api.ErrShape)
}

// TestM1OfTwo: of the first one, then of the second, then that they do not go together.
func TestM1OfTwo(t *testing.T) {
	for name, call := range map[string]func(a, b api.Matrix) (api.Matrix, error){
		"Add":   Add,
		"Mul":   Mul,
		"Stack": func(a, b api.Matrix) (api.Matrix, error) { return Stack([]api.Matrix{a, b}) },
	} {
		good := counted(2, 3, 1)
		for _, c := range wrong() {
			got, err := call(c.a, good)
			must(t, name+" first: "+c.name, got, err, api.Matrix{}, c.told)
			got, err = call(good, c.a)
			must(t, name+" second: "+c.name, got, err, api.Matrix{}, c.told)
			for _, d := range wrong() {
				got, err = call(c.a, d.a)
				must(t, name+" both: "+c.name+"; "+d.name, got, err, api.Matrix{}, c.told)
			}
		}
	}
}

// exact is what M2 says of a cell, by big numbers.
func exact(a, b api.Matrix, i, j int) int {
	sum := new(big.Int)
	for k := range a.Cols {
		p := big.NewInt(int64(a.Cells[i*a.Cols+k]))
		p.Mul(p, big.NewInt(int64(b.Cells[k*b.Cols+j])))
		// Rsh of big numbers rounds down.
		ended(p.Rsh(p, 8))
		ended(sum.Add(sum, p))
	}
	return int(sum.Int64())
}

func ended(x *big.Int) {
	top := big.NewInt(api.Top)
	if x.CmpAbs(top) > 0 {
		x.Mul(top, big.NewInt(int64(x.Sign())))
	}
}

func TestM2Add(t *testing.T) {
	for _, c := range []struct {
		name       string
		a, b, want api.Matrix
		told       api.Errno
	}{
		{"ordinary", of(2, 2, 1, 2, 3, 4), of(2, 2, 10, 20, 30, -40), of(2, 2, 11, 22, 33, -36), api.OK},
		{"at the ends", of(1, 3, api.Top, -api.Top, api.Top), of(1, 3, 1, -1, -api.Top), of(1, 3, api.Top, -api.Top, 0), api.OK},
		{"empty", api.Matrix{}, api.Matrix{}, api.Matrix{}, api.OK},
		{"no columns", of(3, 0), of(3, 0), of(3, 0), api.OK},
		{"no rows", of(0, 3), of(0, 3), of(0, 3), api.OK},
		{"greatest", full(24, 12, 3), full(24, 12, 4), full(24, 12, 7), api.OK},
		{"not the same Rows", full(2, 2, 1), full(1, 2, 1), api.Matrix{}, api.ErrShape},
		{"not the same Cols", full(2, 2, 1), full(2, 3, 1), api.Matrix{}, api.ErrShape},
		{"as many cells", full(2, 3, 1), full(3, 2, 1), api.Matrix{}, api.ErrShape},
		{"no cells, not the same Rows", of(3, 0), of(2, 0), api.Matrix{}, api.ErrShape},
		{"no cells, not the same Cols", of(0, 3), of(0, 2), api.Matrix{}, api.ErrShape},
	} {
		got, err := Add(c.a, c.b)
		must(t, c.name, got, err, c.want, c.told)
	}
}

func TestM2Mul(t *testing.T) {
	a := of(2, 2, 256, 512, 0, 256)
	for _, c := range []struct {
		name       string
		a, b, want api.Matrix
		told       api.Errno
	}{
		{"the chapter's", a, a, of(2, 2, 256, 1024, 0, 256), api.OK},
		{"not square", of(1, 2, 256, 512), of(2, 3, 1, 2, 3, 10, 20, 30), of(1, 3, 21, 42, 63), api.OK},
		{"each product rounded down", of(1, 2, 128, 128), of(2, 1, 1, 1), of(1, 1, 0), api.OK},
		{"each product rounded down below 0", of(1, 2, -1, -1), of(2, 1, 1, 1), of(1, 1, -2), api.OK},
		{"a sum that ends, and comes back", of(1, 3, 256, 256, 256), of(3, 1, api.Top, api.Top, -api.Top), of(1, 1, 0), api.OK},
		{"the other order", of(1, 3, 256, 256, 256), of(3, 1, -api.Top, api.Top, api.Top), of(1, 1, api.Top), api.OK},
		{"a product that ends", of(1, 2, api.Top, 256), of(2, 1, -api.Top, 1), of(1, 1, -api.Top+1), api.OK},
		{"no terms", of(2, 0), of(0, 3), of(2, 3, 0, 0, 0, 0, 0, 0), api.OK},
		{"empty", api.Matrix{}, api.Matrix{}, api.Matrix{}, api.OK},
		{"no rows", of(0, 2), full(2, 3, 1), of(0, 3), api.OK},
		{"no columns", full(2, 3, 1), of(3, 0), of(2, 0), api.OK},
		{"greatest", full(24, 12, 256), full(12, 12, 1), full(24, 12, 12), api.OK},
		{"a's Cols are not b's Rows", full(2, 3, 1), full(2, 3, 1), api.Matrix{}, api.ErrShape},
		{"b's Rows above MaxSide", full(2, 12, 1), full(13, 2, 1), api.Matrix{}, api.ErrShape},
		{"no terms on one side", of(2, 0), full(1, 3, 1), api.Matrix{}, api.ErrShape},
	} {
		got, err := Mul(c.a, c.b)
		must(t, c.name, got, err, c.want, c.told)
	}
}

func TestM2MulIsExact(t *testing.T) {
	r := rand.New(rand.NewSource(2))
	for range 300 {
		n := r.Intn(13)
		a, b := some(r, r.Intn(25), n), some(r, n, r.Intn(13))
		got, err := Mul(a, b)
		want := full(a.Rows, b.Cols, 0)
		for i := range a.Rows {
			for j := range b.Cols {
				want.Cells[i*b.Cols+j] = exact(a, b, i, j)
			}
		}
		must(t, fmt.Sprintf("Mul(%v, %v)", a, b), got, err, want, api.OK)
	}
}

func TestM2Turn(t *testing.T) {
	for _, c := range []struct {
		name    string
		a, want api.Matrix
		told    api.Errno
	}{
		{"ordinary", of(2, 3, 1, 2, 3, 4, 5, 6), of(3, 2, 1, 4, 2, 5, 3, 6), api.OK},
		{"a row", of(1, 3, 1, 2, 3), of(3, 1, 1, 2, 3), api.OK},
		{"at the ends", of(1, 2, api.Top, -api.Top), of(2, 1, api.Top, -api.Top), api.OK},
		{"empty", api.Matrix{}, api.Matrix{}, api.OK},
		{"no columns", of(3, 0), of(0, 3), api.OK},
		{"no rows", of(0, 12), of(12, 0), api.OK},
		{"MaxSide rows", counted(12, 1, 1), counted(1, 12, 1), api.OK},
		{"more rows than MaxSide", full(13, 1, 1), api.Matrix{}, api.ErrRange},
		{"more rows than MaxSide, no columns", of(13, 0), api.Matrix{}, api.ErrRange},
		{"MaxRows rows", full(24, 12, 1), api.Matrix{}, api.ErrRange},
	} {
		got, err := Turn(c.a)
		must(t, c.name, got, err, c.want, c.told)
	}
}

func TestM2Times(t *testing.T) {
	for _, c := range []struct {
		name string
		a    api.Matrix
		x    int
		want api.Matrix
	}{
		{"ordinary", of(2, 2, 256, 512, 0, -256), 128, of(2, 2, 128, 256, 0, -128)},
		{"by 0", of(1, 2, api.Top, -api.Top), 0, of(1, 2, 0, 0)},
		{"by One", of(1, 2, api.Top, -api.Top), api.One, of(1, 2, api.Top, -api.Top)},
		{"rounded down", of(1, 2, 1, -1), 128, of(1, 2, 0, -1)},
		{"at the ends", of(1, 2, api.Top, -api.Top), 512, of(1, 2, api.Top, -api.Top)},
		{"by a number beyond the ends", of(1, 2, 256, 1), math.MaxInt, of(1, 2, api.Top, api.Top/256)},
		{"by a number below the ends", of(1, 2, 256, 1), math.MinInt, of(1, 2, -api.Top, -(api.Top/256)-1)},
		{"empty", api.Matrix{}, 5, api.Matrix{}},
		{"no columns", of(3, 0), 5, of(3, 0)},
		{"greatest", full(24, 12, 3), 512, full(24, 12, 6)},
	} {
		got, err := Times(c.a, c.x)
		must(t, c.name, got, err, c.want, api.OK)
	}
}

func TestM2Sums(t *testing.T) {
	for _, c := range []struct {
		name    string
		a, want api.Matrix
	}{
		{"the chapter's", of(2, 2, 256, 512, 0, 256), of(1, 2, 256, 768)},
		{"not square", of(3, 2, 1, 2, 30, 40, 500, 600), of(1, 2, 531, 642)},
		{"a sum that ends, and comes back", of(3, 2, api.Top, -api.Top, api.Top, -api.Top, -1, 1), of(1, 2, api.Top-1, -api.Top+1)},
		{"no rows", of(0, 3), of(1, 3, 0, 0, 0)},
		{"no columns", of(3, 0), of(1, 0)},
		{"empty", api.Matrix{}, of(1, 0)},
		{"one row", of(1, 2, api.Top, -5), of(1, 2, api.Top, -5)},
		{"greatest", full(24, 12, -3), full(1, 12, -72)},
	} {
		got, err := Sums(c.a)
		must(t, c.name, got, err, c.want, api.OK)
	}
}

func TestM3Rows(t *testing.T) {
	a := of(3, 2, 1, 2, 3, 4, 5, 6)
	for _, c := range []struct {
		name     string
		a        api.Matrix
		from, to int
		want     api.Matrix
		told     api.Errno
	}{
		{"the first", a, 0, 1, of(1, 2, 1, 2), api.OK},
		{"in the middle", a, 1, 2, of(1, 2, 3, 4), api.OK},
		{"the last", a, 1, 3, of(2, 2, 3, 4, 5, 6), api.OK},
		{"all", a, 0, 3, a, api.OK},
		{"none at the beginning", a, 0, 0, of(0, 2), api.OK},
		{"none in the middle", a, 2, 2, of(0, 2), api.OK},
		{"none at the end", a, 3, 3, of(0, 2), api.OK},
		{"of the empty one", api.Matrix{}, 0, 0, api.Matrix{}, api.OK},
		{"of one without columns", of(3, 0), 1, 3, of(2, 0), api.OK},
		{"of the greatest", counted(24, 12, 0), 12, 24, counted(12, 12, 144), api.OK},
		{"from below 0", a, -1, 2, api.Matrix{}, api.ErrRange},
		{"from above to", a, 2, 1, api.Matrix{}, api.ErrRange},
		{"to above Rows", a, 0, 4, api.Matrix{}, api.ErrRange},
		{"both above Rows", a, 4, 4, api.Matrix{}, api.ErrRange},
		{"both below 0", a, -1, -1, api.Matrix{}, api.ErrRange},
		{"far ones", a, math.MinInt, math.MaxInt, api.Matrix{}, api.ErrRange},
		{"far ones, the other way", a, math.MaxInt, math.MinInt, api.Matrix{}, api.ErrRange},
		{"no columns, to above Rows", of(3, 0), 0, 4, api.Matrix{}, api.ErrRange},
	} {
		got, err := Rows(c.a, c.from, c.to)
		must(t, c.name, got, err, c.want, c.told)
	}
}

func TestM3Stack(t *testing.T) {
	for _, c := range []struct {
		name string
		l    []api.Matrix
		want api.Matrix
		told api.Errno
	}{
		{"one", []api.Matrix{of(1, 2, 1, 2)}, of(1, 2, 1, 2), api.OK},
		{"some", []api.Matrix{of(1, 2, 1, 2), of(2, 2, 3, 4, 5, 6), of(1, 2, 7, 8)}, counted(4, 2, 1), api.OK},
		{"without rows between", []api.Matrix{of(0, 2), of(1, 2, 1, 2), of(0, 2)}, of(1, 2, 1, 2), api.OK},
		{"without rows all", []api.Matrix{of(0, 2), of(0, 2)}, of(0, 2), api.OK},
		{"without columns", []api.Matrix{of(2, 0), of(3, 0)}, of(5, 0), api.OK},
		{"empty ones", []api.Matrix{{}, {}}, api.Matrix{}, api.OK},
		{"as many rows as may be", []api.Matrix{counted(12, 12, 0), counted(12, 12, 144)}, counted(24, 12, 0), api.OK},
		{"more ones than MaxRows, few rows", slices.Repeat([]api.Matrix{of(0, 1)}, 100), of(0, 1), api.OK},
		{"nil", nil, api.Matrix{}, api.ErrShape},
		{"none", []api.Matrix{}, api.Matrix{}, api.ErrShape},
		{"Cols not the same", []api.Matrix{full(1, 2, 1), full(1, 3, 1)}, api.Matrix{}, api.ErrShape},
		{"the last one's Cols not the same", []api.Matrix{full(1, 2, 1), full(1, 2, 1), full(1, 1, 1)}, api.Matrix{}, api.ErrShape},
		{"Cols not the same, without rows", []api.Matrix{of(0, 2), of(0, 3)}, api.Matrix{}, api.ErrShape},
		{"the empty one among others", []api.Matrix{{}, full(1, 2, 1)}, api.Matrix{}, api.ErrShape},
		{"one row too many", []api.Matrix{full(24, 2, 1), full(1, 2, 1)}, api.Matrix{}, api.ErrFull},
		{"rows too many, without columns", []api.Matrix{of(24, 0), of(1, 0)}, api.Matrix{}, api.ErrFull},
		{"Cols, then too many", []api.Matrix{full(24, 2, 1), full(24, 2, 1), full(1, 1, 1)}, api.Matrix{}, api.ErrShape},
		{"a cell, then Cols, then too many", []api.Matrix{full(24, 2, 1), full(24, 1, 1), of(1, 1, api.Top+1)}, api.Matrix{}, api.ErrRange},
		{"Cells of the second, then a cell of the third", []api.Matrix{full(1, 1, 1), of(1, 1), of(1, 1, api.Top+1)}, api.Matrix{}, api.ErrShape},
		{"a cell of the second, then Cells of the third", []api.Matrix{full(1, 1, 1), of(1, 1, api.Top+1), of(1, 1)}, api.Matrix{}, api.ErrRange},
	} {
		got, err := Stack(c.l)
		must(t, c.name, got, err, c.want, c.told)
	}
}

func TestM4TurnedProducts(t *testing.T) {
	r := rand.New(rand.NewSource(4))
	ok := right(t)
	for range 200 {
		n := r.Intn(13)
		a, b := some(r, r.Intn(13), n), some(r, n, r.Intn(13))
		got, err := Mul(ok(Turn(b)), ok(Turn(a)))
		must(t, fmt.Sprintf("of %v and %v", a, b), got, err, ok(Turn(ok(Mul(a, b)))), api.OK)
		got, err = Turn(ok(Turn(a)))
		must(t, "turned twice", got, err, a, api.OK)
	}
}

func TestM4RowsApart(t *testing.T) {
	r := rand.New(rand.NewSource(5))
	ok := right(t)
	for range 200 {
		n := r.Intn(13)
		a, b := some(r, r.Intn(25), n), some(r, n, r.Intn(13))
		parts := []api.Matrix{ok(Rows(a, 0, 0))}
		products := []api.Matrix{ok(Mul(parts[0], b))}
		for from := 0; from < a.Rows; {
			to := from + 1 + r.Intn(a.Rows-from)
			part := ok(Rows(a, from, to))
			parts, products = append(parts, part), append(products, ok(Mul(part, b)))
			from = to
		}
		got, err := Stack(parts)
		must(t, fmt.Sprintf("stacked rows of %v", a), got, err, a, api.OK)
		got, err = Stack(products)
		must(t, fmt.Sprintf("products by rows of %v and %v", a, b), got, err, ok(Mul(a, b)), api.OK)
	}
}

// calls has every face that answers a matrix, on the same square one.
func calls() map[string]func(a api.Matrix) (api.Matrix, error) {
	return map[string]func(a api.Matrix) (api.Matrix, error){
		"Add":       func(a api.Matrix) (api.Matrix, error) { return Add(a, a) },
		"Mul":       func(a api.Matrix) (api.Matrix, error) { return Mul(a, a) },
		"Turn":      Turn,
		"Times":     func(a api.Matrix) (api.Matrix, error) { return Times(a, api.One) },
		"Sums":      Sums,
		"Rows":      func(a api.Matrix) (api.Matrix, error) { return Rows(a, 0, a.Rows) },
		"Stack one": func(a api.Matrix) (api.Matrix, error) { return Stack([]api.Matrix{a}) },
		"Stack":     func(a api.Matrix) (api.Matrix, error) { return Stack([]api.Matrix{a, a}) },
	}
}

// TestP2ListsStay: what is handed in is not written into, nor what lies behind it, and what comes out shares no memory with it.
func TestP2ListsStay(t *testing.T) {
	for name, call := range calls() {
		for _, side := range []int{1, 2, 3} {
			memory := counted(1, side*side+5, 1).Cells
			a := api.Matrix{Rows: side, Cols: side, Cells: memory[:side*side]}
			before := slices.Clone(memory)
			got := right(t)(call(a))
			again := right(t)(call(a))
			want := copyOf(again)
			for i := range got.Cells {
				got.Cells[i] = -7
			}
			_ = append(got.Cells, -7, -7)
			if !slices.Equal(memory, before) {
				t.Errorf("%s: the list that was handed in became %v", name, memory)
			}
			if !same(again, want) {
				t.Errorf("%s: two answers share memory", name)
			}
		}
	}
}

// TestP2StackKeepsTheList: nor is the list of matrices itself written into.
func TestP2StackKeepsTheList(t *testing.T) {
	memory := []api.Matrix{of(1, 1, 1), of(1, 1, 2), of(1, 1, 3)}
	got, err := Stack(memory[:2])
	must(t, "Stack", got, err, of(2, 1, 1, 2), api.OK)
	for i, want := range []int{1, 2, 3} {
		if !same(memory[i], of(1, 1, want)) {
			t.Errorf("matrix %d of the list became %v", i, memory[i])
		}
	}
}
