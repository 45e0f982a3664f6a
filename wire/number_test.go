package wire

import (
	"fmt"
	"math"
	"math/rand"
	"slices"
	"testing"

	"galley/api"
)

// read reads the first number of some bytes, and tells how many bytes it had.
func read(b []byte) (x, n int, ok bool) {
	r := reader{bytes: b}
	x, ok = r.number()
	return x, r.at, ok
}

func mustNumber(t *testing.T, x int, want []byte) {
	t.Helper()
	if got := appendNumber(nil, x); !slices.Equal(got, want) {
		t.Errorf("%d is written as %v, want %v", x, got, want)
	}
	for _, behind := range [][]byte{nil, {0}, {1}, {127}, {128}, {255}, {0, 0, 0, 0, 0, 0, 0, 0, 0}} {
		if got, n, ok := read(slices.Concat(want, behind)); !ok || got != x || n != len(want) {
			t.Errorf("%v, and %v behind it, are read as %d, %d, %v, want %d", want, behind, got, n, ok, x)
		}
	}
	for short := range want {
		refuseNumber(t, want[:short])
	}
}

func refuseNumber(t *testing.T, b []byte) {
	t.Helper()
	if got, _, ok := read(b); ok {
		t.Errorf("%v are read as %d", b, got)
	}
}

func TestW1Numbers(t *testing.T) {
	mustNumber(t, 0, bytesOf(0))
	mustNumber(t, 1, bytesOf(1))
	mustNumber(t, 127, bytesOf(127))
	mustNumber(t, 128, bytesOf(128, 1))
	mustNumber(t, 129, bytesOf(129, 1))
	mustNumber(t, 255, bytesOf(255, 1))
	mustNumber(t, 256, bytesOf(128, 2))
	mustNumber(t, 300, bytesOf(172, 2))
	mustNumber(t, 16383, bytesOf(255, 127))
	mustNumber(t, 16384, bytesOf(128, 128, 1))
	mustNumber(t, 1<<56-1, bytesOf(255, 255, 255, 255, 255, 255, 255, 127))
	mustNumber(t, 1<<56, bytesOf(128, 128, 128, 128, 128, 128, 128, 128, 1))
	mustNumber(t, 1<<62, bytesOf(128, 128, 128, 128, 128, 128, 128, 128, 64))
	mustNumber(t, math.MaxInt, bytesOf(255, 255, 255, 255, 255, 255, 255, 255, 127))
}

// TestW1EachLength: the least and the greatest number of each length, and some between.
func TestW1EachLength(t *testing.T) {
	r := rand.New(rand.NewSource(2))
	for long := 1; long <= 9; long++ {
		least, greatest := 0, math.MaxInt
		if long > 1 {
			least = 1 << (7 * (long - 1))
		}
		if long < 9 {
			greatest = 1<<(7*long) - 1
		}
		for _, x := range []int{least, least + 1, greatest - 1, greatest, least + r.Intn(greatest-least)} {
			if n := len(appendNumber(nil, x)); n != long {
				t.Errorf("%d has %d bytes, want %d", x, n, long)
			}
			mustNumber(t, x, slowNumber(uint64(x)))
		}
	}
}

// TestW1ListsGrow: what is written already stays ahead.
func TestW1ListsGrow(t *testing.T) {
	b := appendNumber(appendNumber(bytesOf(7), 300), 0)
	if !slices.Equal(b, bytesOf(7, 172, 2, 0)) {
		t.Errorf("behind 7, 300 and 0 are %v", b)
	}
}

// TestW1LastByteZero: a number whose last byte is 0, though it is not the only one, is not read.
func TestW1LastByteZero(t *testing.T) {
	for long := 2; long <= 12; long++ {
		for _, ahead := range []byte{128, 129, 200, 255} {
			b := slices.Repeat([]byte{ahead}, long)
			b[long-1] = 0
			refuseNumber(t, b)
			refuseNumber(t, append(b, 1))
		}
	}
	// A 0 that is not the last byte's may be.
	mustNumber(t, 5<<7, bytesOf(128, 5))
}

// TestW1TenBytes: so long is none, whatever its last byte, and none that does not end.
func TestW1TenBytes(t *testing.T) {
	for long := 10; long <= 13; long++ {
		for _, ahead := range []byte{128, 129, 255} {
			b := slices.Repeat([]byte{ahead}, long)
			refuseNumber(t, b)
			for last := range 128 {
				b[long-1] = byte(last)
				refuseNumber(t, b)
			}
		}
	}
	for long := range 10 {
		refuseNumber(t, slices.Repeat([]byte{128}, long))
		refuseNumber(t, slices.Repeat([]byte{255}, long))
	}
}

// TestW1AllShortNumbers: of all bytes, two and three, just those are read that are written.
func TestW1AllShortNumbers(t *testing.T) {
	for code := range 1 << 16 {
		for _, b := range [][]byte{bytesOf(code>>8, code), bytesOf(code>>8, code, 1), bytesOf(code>>8, code, 0)} {
			x, n, ok := readSlowly(b)
			got, long, taken := read(b)
			if taken != ok || ok && (got != int(x) || long != n) {
				t.Fatalf("%v are read as %d, %d, %v, want %d, %d, %v", b, got, long, taken, x, n, ok)
			}
		}
	}
}

func TestW1Cells(t *testing.T) {
	cases := []struct {
		cell, number int
		bytes        []byte
	}{
		{0, 0, bytesOf(0)},
		{-1, 1, bytesOf(1)},
		{1, 2, bytesOf(2)},
		{-2, 3, bytesOf(3)},
		{2, 4, bytesOf(4)},
		{-3, 5, bytesOf(5)},
		{63, 126, bytesOf(126)},
		{-64, 127, bytesOf(127)},
		{64, 128, bytesOf(128, 1)},
		{-65, 129, bytesOf(129, 1)},
		{100, 200, bytesOf(200, 1)},
		{8191, 16382, bytesOf(254, 127)},
		{-8192, 16383, bytesOf(255, 127)},
		{8192, 16384, bytesOf(128, 128, 1)},
		{api.Top - 1, 1<<32 - 4, bytesOf(252, 255, 255, 255, 15)},
		{1 - api.Top, 1<<32 - 5, bytesOf(251, 255, 255, 255, 15)},
		{api.Top, 1<<32 - 2, bytesOf(254, 255, 255, 255, 15)},
		{-api.Top, 1<<32 - 3, bytesOf(253, 255, 255, 255, 15)},
	}
	for _, c := range cases {
		if got := numberOf(c.cell); got != c.number {
			t.Errorf("the cell %d is the number %d, want %d", c.cell, got, c.number)
		}
		if got := cellOf(c.number); got != c.cell {
			t.Errorf("the number %d is the cell %d, want %d", c.number, got, c.cell)
		}
		for kind := api.Forward; kind <= api.Backward; kind++ {
			mustBoth(t, message(kind, 3, 1, 1, c.cell), summed(bytesOf(kind, 3, 1, 1), c.bytes))
		}
	}
	for _, x := range edges() {
		mustBoth(t, message(2, 0, 1, 1, x), summed(bytesOf(2, 0, 1, 1), slowCell(x)))
	}
}

// TestW1NumbersThatAreNoCells: all numbers are read, but cells end at -Top and Top.
func TestW1NumbersThatAreNoCells(t *testing.T) {
	cases := map[int]int{
		1<<32 - 1:       -1 << 31,
		1 << 32:         1 << 31,
		math.MaxInt:     -1 << 62,
		math.MaxInt - 1: 1<<62 - 1,
	}
	for number, cell := range cases {
		if got := cellOf(number); got != cell {
			t.Errorf("the number %d is the cell %d, want %d", number, got, cell)
		}
	}
}

// TestW1Sums: where a sum comes to 255, it is 0; what passes 255 goes on from there.
func TestW1Sums(t *testing.T) {
	cases := []struct {
		message api.Message
		bytes   []byte
	}{
		{message(1, 2, 1, 2, -3, 100), bytesOf(1, 2, 1, 2, 5, 200, 1, 212, 193)},
		{message(1, 0, 0, 0), bytesOf(1, 0, 0, 0, 1, 4)},
		{message(2, 11, 0, 0), bytesOf(2, 11, 0, 0, 13, 41)},
		{message(2, 11, 24, 0), bytesOf(2, 11, 24, 0, 37, 89)},
		{message(1, 0, 1, 1, 63), bytesOf(1, 0, 1, 1, 126, 129, 136)},
		// The first is 254, 255 and 256.
		{message(1, 0, 1, 1, 1522), bytesOf(1, 0, 1, 1, 228, 23, 254, 237)},
		{message(1, 0, 1, 1, 1586), bytesOf(1, 0, 1, 1, 228, 24, 0, 238)},
		{message(1, 0, 1, 1, 1650), bytesOf(1, 0, 1, 1, 228, 25, 1, 239)},
		// The second is 509, 510 and 511.
		{message(1, 0, 1, 1, 2610), bytesOf(1, 0, 1, 1, 228, 40, 16, 254)},
		{message(1, 0, 1, 1, 2674), bytesOf(1, 0, 1, 1, 228, 41, 17, 0)},
		{message(1, 0, 1, 1, 2738), bytesOf(1, 0, 1, 1, 228, 42, 18, 1)},
		// The same bytes in another order: the first is the same.
		{message(1, 2, 1, 2, 5, -8), bytesOf(1, 2, 1, 2, 10, 15, 31, 61)},
		{message(1, 2, 1, 2, -8, 5), bytesOf(1, 2, 1, 2, 15, 10, 31, 66)},
		// Both pass 255 often.
		{message(1, 0, 1, 2, api.Top, -api.Top), bytesOf(1, 0, 1, 2, 254, 255, 255, 255, 15, 253, 255, 255, 255, 15, 31, 133)},
	}
	for _, c := range cases {
		mustBoth(t, c.message, c.bytes)
		if got := slowEncode(c.message); !slices.Equal(got, c.bytes) {
			t.Errorf("%v: the tests' own bytes are %v, want %v", c.message, got, c.bytes)
		}
	}
	for _, m := range right() {
		mustBoth(t, m, slowEncode(m))
	}
}

func TestW1SumsOfAnyBytes(t *testing.T) {
	r := rand.New(rand.NewSource(3))
	for long := range 400 {
		for _, b := range [][]byte{make([]byte, long), slices.Repeat([]byte{255}, long), slices.Repeat([]byte{254}, long), slices.Repeat([]byte{1}, long), someBytes(r, long)} {
			if got := Sums(b); !slices.Equal(got[:], slowSums(b)) {
				t.Errorf("the sums of %v are %v, want %v", b, got, slowSums(b))
			}
		}
	}
}

func someBytes(r *rand.Rand, long int) []byte {
	b := make([]byte, long)
	for i := range b {
		b[i] = byte(r.Intn(256))
	}
	return b
}

// TestW1SumsAreBelow255: 255 is not what 0 is, though it is 0 modulo 255.
func TestW1SumsAreBelow255(t *testing.T) {
	mustDecode(t, bytesOf(1, 0, 1, 1, 228, 24, 0, 238), message(1, 0, 1, 1, 1586), 8)
	refuseDecode(t, "the first", bytesOf(1, 0, 1, 1, 228, 24, 255, 238))
	mustDecode(t, bytesOf(1, 0, 1, 1, 228, 41, 17, 0), message(1, 0, 1, 1, 2674), 8)
	refuseDecode(t, "the second", bytesOf(1, 0, 1, 1, 228, 41, 17, 255))
}

// TestW1OtherForms: each number of a message, written longer than it need be,
// or so long that only its lower end is right; the sums are right.
func TestW1OtherForms(t *testing.T) {
	m := message(1, 2, 2, 1, 0, 100)
	mustDecode(t, slowEncode(m), m, len(slowEncode(m)))
	for place, number := range parts(m) {
		longer := func(rest ...byte) {
			t.Helper()
			list := parts(m)
			list[place] = slices.Clone(number)
			list[place][len(number)-1] += 128
			list[place] = append(list[place], rest...)
			refuseDecode(t, fmt.Sprint("number ", place), summed(list...))
			refuseDecode(t, fmt.Sprint("number ", place), append(summed(list...), 0, 0, 0))
		}
		for long := range 12 {
			ahead := slices.Repeat([]byte{128}, long)
			longer(append(ahead, 0)...)
			// From five more bytes on, of a cell too, there is nothing that may be.
			if long < 4 && place >= 4 {
				continue
			}
			for _, last := range []byte{1, 2, 64, 127} {
				longer(append(ahead, last)...)
			}
		}
	}
}
