package fix

import (
	"errors"
	"math"
	"math/big"
	"regexp"
	"strings"
	"testing"

	"galley/api"
)

// edges are numbers at, beside and far beyond the ends, and around what matters to rounding.
func edges() []int {
	return []int{
		math.MinInt, math.MinInt + 1, -1 << 40, -1 << 32, -api.Top - 2, -api.Top - 1, -api.Top, -api.Top + 1,
		-1 << 30, -65537, -65536, -513, -512, -257, -256, -255, -129, -128, -127, -64, -2, -1,
		0, 1, 2, 3, 64, 127, 128, 129, 255, 256, 257, 384, 511, 512, 65535, 65536, 1 << 30,
		api.Top - 1, api.Top, api.Top + 1, api.Top + 2, 1 << 32, 1 << 40, math.MaxInt - 1, math.MaxInt,
	}
}

// within is F1's Clamp by big numbers, which have no ends.
func within(x *big.Int) int {
	top := big.NewInt(api.Top)
	if x.Cmp(top) > 0 {
		return api.Top
	}
	if x.Cmp(new(big.Int).Neg(top)) < 0 {
		return -api.Top
	}
	return int(x.Int64())
}

func clampedBig(x int) *big.Int { return big.NewInt(int64(within(big.NewInt(int64(x))))) }

func TestF1Clamp(t *testing.T) {
	for _, c := range []struct{ x, want int }{
		{0, 0}, {1, 1}, {-1, -1},
		{api.Top, api.Top}, {api.Top - 1, api.Top - 1}, {api.Top + 1, api.Top}, {math.MaxInt, api.Top},
		{-api.Top, -api.Top}, {-api.Top + 1, -api.Top + 1}, {-api.Top - 1, -api.Top}, {math.MinInt, -api.Top},
	} {
		if got := Clamp(c.x); got != c.want {
			t.Errorf("Clamp(%d) = %d, want %d", c.x, got, c.want)
		}
	}
}

func TestF1Examples(t *testing.T) {
	for _, c := range []struct {
		name      string
		call      func(a, b int) int
		a, b, out int
	}{
		{"Add", Add, 384, -64, 320},
		{"Add", Add, api.Top, 1, api.Top},
		{"Add", Add, -api.Top, -1, -api.Top},
		{"Add clamps first", Add, 1 << 40, -1, api.Top - 1},
		{"Add clamps first", Add, math.MaxInt, math.MinInt, 0},
		{"Add clamps first", Add, math.MaxInt, math.MaxInt, api.Top},
		{"Sub", Sub, 384, -64, 448},
		{"Sub", Sub, -api.Top, 1, -api.Top},
		{"Sub", Sub, api.Top, -1, api.Top},
		{"Sub clamps first", Sub, 1 << 40, 1, api.Top - 1},
		{"Sub clamps first", Sub, math.MinInt, math.MinInt, 0},
		{"Sub clamps first", Sub, 0, math.MinInt, api.Top},
		{"Mul", Mul, 384, 512, 768},
		{"Mul whole below 0", Mul, -256, 256, -256},
		{"Mul rounds down", Mul, 1, 255, 0},
		{"Mul rounds down below 0", Mul, -1, 128, -1},
		{"Mul rounds down below 0", Mul, 1, -1, -1},
		{"Mul rounds down below 0", Mul, -257, 1, -2},
		{"Mul rounds down below 0", Mul, -1, -1, 0},
		{"Mul", Mul, api.Top, 512, api.Top},
		{"Mul", Mul, api.Top, -512, -api.Top},
		{"Mul", Mul, api.Top, api.One, api.Top},
		{"Mul", Mul, -api.Top, -api.Top, api.Top},
		{"Mul clamps first", Mul, 1 << 40, 1, (1<<31 - 1) / 256},
		{"Mul clamps first", Mul, math.MinInt, 128, -(1 << 30)},
		{"Mul clamps first", Mul, math.MinInt, math.MinInt, api.Top},
	} {
		if got := c.call(c.a, c.b); got != c.out {
			t.Errorf("%s: of %d, %d got %d, want %d", c.name, c.a, c.b, got, c.out)
		}
	}
}

func TestF1AgainstBigNumbers(t *testing.T) {
	one := big.NewInt(api.One)
	for _, a := range edges() {
		for _, b := range edges() {
			x, y := clampedBig(a), clampedBig(b)
			if got, want := Add(a, b), within(new(big.Int).Add(x, y)); got != want {
				t.Errorf("Add(%d, %d) = %d, want %d", a, b, got, want)
			}
			if got, want := Sub(a, b), within(new(big.Int).Sub(x, y)); got != want {
				t.Errorf("Sub(%d, %d) = %d, want %d", a, b, got, want)
			}
			// Div of package big rounds down where it divides by what is above 0.
			product := new(big.Int).Mul(x, y)
			if got, want := Mul(a, b), within(product.Div(product, one)); got != want {
				t.Errorf("Mul(%d, %d) = %d, want %d", a, b, got, want)
			}
		}
	}
}

func TestF2Text(t *testing.T) {
	for _, c := range []struct {
		x    int
		want string
	}{
		{0, "0"}, {256, "1"}, {-256, "-1"}, {2560, "10"}, {-25600, "-100"},
		{384, "1.5"}, {-384, "-1.5"}, {64, "0.25"}, {-64, "-0.25"}, {128, "0.5"},
		{1, "0.00390625"}, {-1, "-0.00390625"}, {2, "0.0078125"}, {255, "0.99609375"}, {-257, "-1.00390625"},
		{16, "0.0625"}, {2560 + 16, "10.0625"},
		{api.Top, "8388607.99609375"}, {-api.Top, "-8388607.99609375"}, {api.Top - 255, "8388607"},
		{api.Top + 1, "8388607.99609375"}, {-api.Top - 1, "-8388607.99609375"},
		{math.MaxInt, "8388607.99609375"}, {math.MinInt, "-8388607.99609375"},
	} {
		if got := Text(c.x); got != c.want {
			t.Errorf("Text(%d) = %q, want %q", c.x, got, c.want)
		}
	}
}

func TestF2ParseReads(t *testing.T) {
	for _, c := range []struct {
		text string
		want int
	}{
		{"0", 0}, {"1", 256}, {"-1", -256}, {"10", 2560}, {"0.25", 64}, {"-0.25", -64}, {"1.5", 384},
		{"0.00390625", 1}, {"-0.00390625", -1}, {"0.99609375", 255}, {"-1.00390625", -257},
		{"8388607", api.Top - 255}, {"8388607.99609375", api.Top}, {"-8388607.99609375", -api.Top},
	} {
		got, err := Parse(c.text)
		if got != c.want || err != nil {
			t.Errorf("Parse(%q) = %d, %v, want %d", c.text, got, err, c.want)
		}
	}
}

func TestF2ParseRefuses(t *testing.T) {
	long := strings.Repeat("0", 1<<20)
	for _, text := range []string{
		"", "-", ".", "-.", "--1", "+1", "+0", "-0", "-0.0", "0.0", "1.", "-1.", ".5", "-.5", "1..5", "1.5.", "1.5.5", "1-", "1.-5",
		"00", "01", "-01", "00.5", "007", "1.50", "1.0", "0.250", "0.00390625000",
		"0.1", "0.3", "0.001", "0.003", "0.00390624", "0.00390626", "0.003906250000001", "0.001953125", "1.001953125",
		"8388608", "-8388608", "8388607.998046875", "8388608.5", "9999999.5", "99999999", "10000000000000000000", "-36028797018963968",
		" 1", "1 ", "1\n", "\t1", "1_000", "1,5", "1e2", "0x1", "0X10", "Inf", "NaN", "true", "1\x00", "\x00", "\xff", "\xff\xfe",
		"1.5\x80", "１", "٣", "−1", "1/2", "1:", "0./", "0.:", long, "1" + long, "0." + long + "1", "-" + long, strings.Repeat("9", 1<<20),
	} {
		got, err := Parse(text)
		if got != 0 || !errors.Is(err, api.ErrSyntax) {
			t.Errorf("Parse(%.40q) = %d, %v, want 0, ErrSyntax", text, got, err)
		}
	}
}

var shape = regexp.MustCompile(`\A(0|-?[1-9][0-9]*|-?(0|[1-9][0-9]*)\.[0-9]*[1-9])\z`)

// readSlowly is F2's Parse by a pattern and fractions without end.
func readSlowly(text string) (int, bool) {
	if !shape.MatchString(text) {
		return 0, false
	}
	r, ok := new(big.Rat).SetString(text)
	if !ok {
		return 0, false
	}
	r.Mul(r, big.NewRat(api.One, 1))
	if !r.IsInt() || r.Num().CmpAbs(big.NewInt(api.Top)) > 0 {
		return 0, false
	}
	return int(r.Num().Int64()), true
}

func checkParse(t *testing.T, text string) {
	t.Helper()
	want, ok := readSlowly(text)
	got, err := Parse(text)
	if got != want || ok != (err == nil) || (!ok && !errors.Is(err, api.ErrSyntax)) {
		t.Errorf("Parse(%q) = %d, %v, want %d, %t", text, got, err, want, ok)
	}
}

// TestF2ParseAllShort asks all texts of up to 6 of these bytes.
func TestF2ParseAllShort(t *testing.T) {
	const letters = "-.0257 "
	texts := []string{""}
	for range 7 {
		var longer []string
		for _, text := range texts {
			checkParse(t, text)
			for i := range len(letters) {
				longer = append(longer, text+letters[i:i+1])
			}
		}
		texts = longer
	}
}

// TestF2ParseNearTexts asks each text that is a byte away from the Text of a number.
func TestF2ParseNearTexts(t *testing.T) {
	const letters = "-+.0123456789 e\x00\xff"
	for _, x := range edges() {
		text := Text(x)
		for i := range len(text) + 1 {
			for j := range len(letters) {
				checkParse(t, text[:i]+letters[j:j+1]+text[i:])
				if i < len(text) {
					checkParse(t, text[:i]+letters[j:j+1]+text[i+1:])
				}
			}
			if i < len(text) {
				checkParse(t, text[:i]+text[i+1:])
			}
		}
	}
}

func TestF3OrderOfTwo(t *testing.T) {
	for _, a := range edges() {
		for _, b := range edges() {
			if Add(a, b) != Add(b, a) {
				t.Errorf("Add minds which of %d, %d comes first", a, b)
			}
			if Mul(a, b) != Mul(b, a) {
				t.Errorf("Mul minds which of %d, %d comes first", a, b)
			}
		}
	}
}

func TestF3BracketsMatter(t *testing.T) {
	if left, right := Add(Add(api.Top, 1), -1), Add(api.Top, Add(1, -1)); left != api.Top-1 || right != api.Top {
		t.Errorf("Add of Top, 1, -1: %d and %d", left, right)
	}
	if left, right := Mul(Mul(1, 128), 512), Mul(1, Mul(128, 512)); left != 0 || right != 1 {
		t.Errorf("Mul of 1, 128, 512: %d and %d", left, right)
	}
}

func TestF3MoreIsNeverLess(t *testing.T) {
	for _, a := range edges() {
		for _, b := range edges() {
			if a < b {
				continue
			}
			for _, c := range edges() {
				if Add(a, c) < Add(b, c) {
					t.Errorf("Add(%d, %d) is less than Add(%d, %d)", a, c, b, c)
				}
			}
		}
	}
}

func TestF3TextLeadsBack(t *testing.T) {
	check := func(x int) {
		t.Helper()
		if got, err := Parse(Text(x)); got != Clamp(x) || err != nil {
			t.Errorf("Parse(Text(%d)) = %d, %v", x, got, err)
		}
	}
	for _, x := range edges() {
		check(x)
	}
	for x := -70000; x <= 70000; x++ {
		check(x)
	}
	for x := 0; x <= 1000; x++ {
		check(api.Top - x)
		check(-api.Top + x)
	}
	// A step that is odd meets all that can stand behind the point.
	for x := -api.Top; x <= api.Top; x += 49999 {
		check(x)
	}
}
