package wire

import (
	"fmt"
	"math"
	"math/rand"
	"slices"
	"testing"

	"galley/api"
	"galley/mat"
	"galley/plain"
)

// outside are numbers that are beyond a greatest one, but look like small ones
// to whoever looks at their lower ends alone.
func outside(greatest int) []int {
	list := []int{greatest + 1, greatest + 2, 127, 128, math.MaxInt, math.MaxInt - 1}
	for _, bits := range []int{8, 16, 31, 32, 48, 56, 62} {
		for x := range 3 {
			list = append(list, 1<<bits+x, 1<<bits+greatest)
		}
	}
	return list
}

// below are numbers below 0.
func below() []int {
	return []int{-1, -2, -127, -128, -255, -256, 1 - 1<<8, 1 - 1<<32, 1 - 1<<62, math.MinInt, math.MinInt + 1}
}

func TestW2Edges(t *testing.T) {
	for _, kind := range []int{1, 2} {
		for micro := range 12 {
			mustBoth(t, message(kind, micro, 0, 0), summed(bytesOf(kind, micro, 0, 0)))
		}
	}
	for rows := range 25 {
		for cols := range 13 {
			m := filled(2, 5, rows, cols, 5)
			mustBoth(t, m, summed(bytesOf(2, 5, rows, cols), slices.Repeat([]byte{10}, rows*cols)))
		}
	}
}

// TestW2NoCells: rows without columns, and columns without rows, have their numbers still.
func TestW2NoCells(t *testing.T) {
	mustBoth(t, message(1, 0, 0, 12), bytesOf(1, 0, 0, 12, 13, 16))
	mustBoth(t, message(1, 0, 24, 0), bytesOf(1, 0, 24, 0, 25, 52))
	mustBoth(t, message(2, 1, 0, 0), bytesOf(2, 1, 0, 0, 3, 11))
}

func TestW2Greatest(t *testing.T) {
	for _, x := range []int{0, 1, -1, 63, 64, api.Top, -api.Top} {
		m := filled(2, 11, 24, 12, x)
		want := summed(bytesOf(2, 11, 24, 12), slices.Repeat(slowCell(x), 288))
		mustBoth(t, m, want)
	}
	if b, err := Encode(filled(1, 0, 24, 12, -api.Top)); len(b) != 4+5*288+2 || err != nil {
		t.Errorf("the greatest message has %d bytes, %v", len(b), err)
	}
}

// bodies are such as mat's Check refuses, and what it tells.
func bodies() map[api.Errno][]api.Matrix {
	of := func(rows, cols int, cells ...int) api.Matrix {
		return api.Matrix{Rows: rows, Cols: cols, Cells: cells}
	}
	found := map[api.Errno][]api.Matrix{
		api.ErrRange: {
			of(25, 0), of(0, 13), of(-1, 0), of(0, -1), of(-1, -1, 5), of(1, 13, make([]int, 13)...), of(25, 1, make([]int, 25)...),
			of(math.MaxInt, 0), of(0, math.MaxInt), of(math.MinInt, 0), of(0, math.MinInt), of(1<<32, 1<<32), of(math.MinInt, 2),
			of(25, 1, 1), of(1, 13, api.Top+1),
		},
		api.ErrShape: {
			of(1, 1), of(0, 0, 1), of(1, 0, 1), of(0, 1, 1), of(2, 2, 1, 2, 3), of(2, 2, 1, 2, 3, 4, 5), of(24, 12),
			of(1, 1, api.Top+1, 1), of(0, 0, math.MinInt), of(12, 12, make([]int, 24)...),
		},
	}
	for _, x := range []int{api.Top + 1, -api.Top - 1, 1 << 32, -1 << 32, math.MaxInt, math.MinInt} {
		found[api.ErrRange] = append(found[api.ErrRange], of(1, 1, x), of(1, 3, x, 0, 0), of(3, 1, 0, 0, x), of(2, 2, 0, x, x, 0))
	}
	return found
}

func TestW2EncodeRefuses(t *testing.T) {
	kinds := append(append(outside(2), below()...), 0)
	micros := append(outside(11), below()...)
	for _, kind := range kinds {
		refuseEncode(t, "Kind", message(kind, 0, 1, 1, 7), api.ErrRange)
		refuseEncode(t, "Kind", message(kind, 11, 0, 0), api.ErrRange)
	}
	for _, micro := range micros {
		refuseEncode(t, "Micro", message(1, micro, 1, 1, 7), api.ErrRange)
		refuseEncode(t, "Micro", message(2, micro, 0, 0), api.ErrRange)
	}
	for told, list := range bodies() {
		for _, body := range list {
			if got := plain.Told(mat.Check(body)); got != told {
				t.Fatalf("Check(%v) tells %v, want %v", body, got, told)
			}
			for _, kind := range []int{1, 2} {
				for _, micro := range []int{0, 11} {
					refuseEncode(t, "Body", api.Message{Kind: kind, Micro: micro, Body: body}, told)
				}
			}
		}
	}
}

// TestW2SeveralAtOnce: Kind and Micro come ahead of the Body, and in the Body
// how many cells there are comes ahead of what they are.
func TestW2SeveralAtOnce(t *testing.T) {
	for _, list := range bodies() {
		for _, body := range list {
			refuseEncode(t, "Kind and Body", api.Message{Kind: 0, Micro: 3, Body: body}, api.ErrRange)
			refuseEncode(t, "Kind and Body", api.Message{Kind: 3, Micro: 3, Body: body}, api.ErrRange)
			refuseEncode(t, "Micro and Body", api.Message{Kind: 1, Micro: -1, Body: body}, api.ErrRange)
			refuseEncode(t, "Micro and Body", api.Message{Kind: 2, Micro: 12, Body: body}, api.ErrRange)
			refuseEncode(t, "all", api.Message{Kind: -1, Micro: math.MaxInt, Body: body}, api.ErrRange)
		}
	}
	refuseEncode(t, "Kind and Micro", message(3, 12, 1, 1, 4), api.ErrRange)
	refuseEncode(t, "cells too few and beyond", message(1, 0, 1, 2, api.Top+1), api.ErrShape)
	refuseEncode(t, "rows beyond, and cells too few", message(1, 0, 25, 2), api.ErrRange)
	refuseEncode(t, "nothing", api.Message{}, api.ErrRange)
}

func TestW2DecodeNoBytes(t *testing.T) {
	refuseDecode(t, "none", nil)
	refuseDecode(t, "an empty list", []byte{})
	refuseDecode(t, "an empty piece", bytesOf(1, 0, 0, 0, 1, 4)[:0])
	for x := range 256 {
		refuseDecode(t, "one byte", bytesOf(x))
		refuseDecode(t, "a byte, over and over", slices.Repeat(bytesOf(x), 2000))
	}
}

// TestW2ReadButNoMessage: all numbers are read and both sums are right, but
// Encode takes no such message.
func TestW2ReadButNoMessage(t *testing.T) {
	m := message(1, 2, 1, 1, -3)
	refuse := func(place, x int) {
		t.Helper()
		list := parts(m)
		list[place] = slowNumber(uint64(x))
		for _, behind := range [][]byte{nil, {0}, make([]byte, 400)} {
			refuseDecode(t, fmt.Sprint(x, " as number ", place), append(summed(list...), behind...))
		}
	}
	refuse(0, 0)
	for place, greatest := range []int{2, 11, 24, 12, 1<<32 - 2} {
		for _, x := range outside(greatest) {
			if x > greatest {
				refuse(place, x)
			}
		}
	}
	// The next ones that are messages.
	mustDecode(t, summed(bytesOf(2, 2, 1, 1, 5)), message(2, 2, 1, 1, -3), 7)
	mustDecode(t, summed(bytesOf(1, 11, 1, 1, 5)), message(1, 11, 1, 1, -3), 7)
	mustDecode(t, summed(bytesOf(1, 2, 24, 1), slices.Repeat([]byte{5}, 24)), filled(1, 2, 24, 1, -3), 30)
	mustDecode(t, summed(bytesOf(1, 2, 1, 12), slices.Repeat([]byte{5}, 12)), filled(1, 2, 1, 12, -3), 18)
	mustDecode(t, summed(bytesOf(1, 2, 1, 1, 254, 255, 255, 255, 15)), message(1, 2, 1, 1, api.Top), 11)
	mustDecode(t, summed(bytesOf(1, 2, 1, 1, 253, 255, 255, 255, 15)), message(1, 2, 1, 1, -api.Top), 11)
	refuseDecode(t, "a cell below -Top", summed(bytesOf(1, 2, 1, 1, 255, 255, 255, 255, 15)))
	refuseDecode(t, "a cell above Top", summed(bytesOf(1, 2, 1, 1, 128, 128, 128, 128, 16)))
}

// TestW2ManyCellsThatAreNone: beyond MaxRows and MaxSide there is nothing,
// whether as many cells stand there or not, and whatever the product comes to.
func TestW2ManyCellsThatAreNone(t *testing.T) {
	for _, size := range [][2]int{{25, 0}, {25, 1}, {25, 12}, {0, 13}, {1, 13}, {24, 13}, {13, 13}, {12, 24}} {
		refuseDecode(t, "with cells", summed(bytesOf(1, 0, size[0], size[1]), make([]byte, size[0]*size[1])))
		refuseDecode(t, "without cells", summed(bytesOf(1, 0, size[0], size[1])))
	}
	for _, rows := range []int{0, 1, 24, 1 << 31, 1 << 32, 1 << 62, 1<<62 + 1, math.MaxInt} {
		for _, cols := range []int{0, 1, 12, 1 << 31, 1 << 32, 1 << 62, 1<<62 + 1, math.MaxInt} {
			b := summed(bytesOf(1, 0), slowNumber(uint64(rows)), slowNumber(uint64(cols)))
			if rows*cols == 0 && rows <= 24 && cols <= 12 {
				mustDecode(t, b, message(1, 0, rows, cols), 6)
				continue
			}
			refuseDecode(t, "a great product", b)
		}
	}
}

// TestW2CellBeyondAnywhere: one cell of many that is beyond the ends, the sums being right.
func TestW2CellBeyondAnywhere(t *testing.T) {
	for _, m := range right() {
		for place := range m.Body.Cells {
			for _, x := range []int{api.Top + 1, -api.Top - 1} {
				list := parts(m)
				list[4+place] = slowCell(x)
				refuseDecode(t, fmt.Sprint("cell ", place), summed(list...))
			}
			if place > 20 {
				break
			}
		}
	}
}

// TestW2OneByteTurned: every single byte of a message turned to each other one.
func TestW2OneByteTurned(t *testing.T) {
	for _, m := range right() {
		b := slowEncode(m)
		for place := range b {
			if place > 40 && place < len(b)-8 {
				continue
			}
			for by := 1; by < 256; by++ {
				turned := slices.Clone(b)
				turned[place] += byte(by)
				mustBeAsSlow(t, "one byte turned", turned)
				mustBeAsSlow(t, "one byte turned", append(turned, b...))
			}
		}
	}
}

// TestW2OneByteTurnedIsNone: of these messages no single byte that is turned leaves one.
func TestW2OneByteTurnedIsNone(t *testing.T) {
	for _, b := range [][]byte{
		bytesOf(1, 2, 1, 2, 5, 200, 1, 212, 193),
		bytesOf(1, 0, 0, 0, 1, 4),
		bytesOf(2, 11, 0, 0, 13, 41),
		bytesOf(2, 11, 24, 0, 37, 89),
		bytesOf(1, 0, 1, 1, 228, 24, 0, 238),
		bytesOf(1, 0, 1, 1, 228, 41, 17, 0),
	} {
		for place := range b {
			for by := 1; by < 256; by++ {
				turned := slices.Clone(b)
				turned[place] += byte(by)
				refuseDecode(t, fmt.Sprint("byte ", place), turned)
			}
		}
	}
}

// TestW2OneByteTurnedMayFit: without its row, what was the cells are the sums.
func TestW2OneByteTurnedMayFit(t *testing.T) {
	b := bytesOf(1, 0, 1, 2, 3, 6, 13, 28)
	mustBoth(t, message(1, 0, 1, 2, -2, 3), b)
	b[2] = 0
	mustDecode(t, b, message(1, 0, 0, 2), 6)
}

// TestW2BytesThatChangedPlaces: the second sum tells of it, where the first does not.
func TestW2BytesThatChangedPlaces(t *testing.T) {
	refuseDecode(t, "cells", bytesOf(1, 2, 1, 2, 15, 10, 31, 61))
	refuseDecode(t, "sums", bytesOf(1, 2, 1, 2, 10, 15, 61, 31))
	for _, m := range right() {
		b := slowEncode(m)
		for place := range min(len(b)-1, 60) {
			turned := slices.Clone(b)
			turned[place], turned[place+1] = turned[place+1], turned[place]
			mustBeAsSlow(t, "changed places", turned)
		}
	}
}

func TestW3Shorter(t *testing.T) {
	for _, m := range right() {
		b, err := Encode(m)
		if err != nil {
			t.Fatalf("Encode(%v): %v", m, err)
		}
		for long := range b {
			refuseDecode(t, fmt.Sprint(long, " bytes of ", len(b)), b[:long])
			refuseDecode(t, fmt.Sprint(long, " bytes of ", len(b)), slices.Clone(b[:long]))
		}
		mustDecode(t, b, m, len(b))
	}
}

// TestW3Behind: whatever stands behind a message, it is decoded, and its bytes alone are counted.
func TestW3Behind(t *testing.T) {
	r := rand.New(rand.NewSource(5))
	for _, m := range right() {
		b, err := Encode(m)
		if err != nil {
			t.Fatalf("Encode(%v): %v", m, err)
		}
		for x := range 256 {
			mustDecode(t, append(slices.Clone(b), byte(x)), m, len(b))
		}
		for _, behind := range [][]byte{nil, b, b[:len(b)-1], make([]byte, 300), slices.Repeat([]byte{255}, 300), someBytes(r, 9), someBytes(r, 1000), summed(b)} {
			mustDecode(t, slices.Concat(b, behind), m, len(b))
		}
	}
}

// TestW3OneBehindTheOther: many messages are taken one by one, by how many bytes each has.
func TestW3OneBehindTheOther(t *testing.T) {
	var whole []byte
	for _, m := range right() {
		b, err := Encode(m)
		if err != nil {
			t.Fatalf("Encode(%v): %v", m, err)
		}
		whole = append(whole, b...)
	}
	for i, m := range right() {
		got, n, err := Decode(whole)
		if err != nil || !sameMessage(got, m) || n != len(slowEncode(m)) {
			t.Fatalf("message %d is %v, %d, %v, want %v", i, got, n, err, m)
		}
		whole = whole[n:]
	}
	refuseDecode(t, "behind the last", whole)
}

// TestW3ThereAndBack: some of all sizes.
func TestW3ThereAndBack(t *testing.T) {
	r := rand.New(rand.NewSource(6))
	for rows := range api.MaxRows + 1 {
		for cols := range api.MaxSide + 1 {
			m := someMessage(r, rows, cols)
			b, err := Encode(m)
			if err != nil || !slices.Equal(b, slowEncode(m)) {
				t.Fatalf("Encode(%v) = %v, %v", m, b, err)
			}
			mustDecode(t, b, m, len(b))
		}
	}
}

// TestW3WhatIsDecodedIsEncoded: there are no two bytes' lists of one message.
func TestW3WhatIsDecodedIsEncoded(t *testing.T) {
	r := rand.New(rand.NewSource(7))
	found := 0
	for range 200000 {
		b := summed(bytesOf(r.Intn(4), r.Intn(14), r.Intn(3), r.Intn(3)), someBytes(r, r.Intn(8)))
		m, n, err := Decode(b)
		if err != nil {
			continue
		}
		found++
		if again, err := Encode(m); err != nil || !slices.Equal(again, b[:n]) {
			t.Errorf("Encode(%v) = %v, %v, want %v", m, again, err, b[:n])
		}
	}
	if found < 1000 {
		t.Errorf("there were only %d messages", found)
	}
}

// TestRuleP1EveryCallEnds: whatever the bytes, something is told, and it is as
// the tests' own reading tells it.
func TestRuleP1EveryCallEnds(t *testing.T) {
	r := rand.New(rand.NewSource(8))
	tolds := map[bool]int{}
	list := right()
	for range 100000 {
		var b []byte
		switch r.Intn(4) {
		case 0:
			b = someBytes(r, r.Intn(40))
		case 1:
			b = summed(bytesOf(1+r.Intn(2), r.Intn(12), r.Intn(4), r.Intn(4)), someBytes(r, r.Intn(20)))
		case 2:
			var all [][]byte
			for range r.Intn(8) {
				all = append(all, slowNumber(r.Uint64()>>r.Intn(64)))
			}
			b = summed(all...)
		default:
			whole := parts(list[r.Intn(11)])
			whole = whole[:min(len(whole), 20)]
			whole[r.Intn(len(whole))] = slowNumber(r.Uint64() >> r.Intn(64))
			b = summed(whole...)
		}
		tolds[mustBeAsSlow(t, "anything", b)]++
	}
	if tolds[true] < 1000 || tolds[false] < 1000 {
		t.Errorf("messages or none: %v", tolds)
	}
}

// TestRuleP1AnyMessage: whatever the message, Encode tells what is wrong with it, or its bytes.
func TestRuleP1AnyMessage(t *testing.T) {
	r := rand.New(rand.NewSource(9))
	some := []int{math.MinInt, -api.Top - 1, -api.Top, -1, 0, 1, 2, 3, 11, 12, 13, 24, 25, api.Top, api.Top + 1, math.MaxInt}
	pick := func() int { return some[r.Intn(len(some))] }
	tolds := map[api.Errno]int{}
	for range 200000 {
		m := message(1+r.Intn(2), r.Intn(12), r.Intn(3), r.Intn(3))
		for range m.Body.Rows*m.Body.Cols + r.Intn(9)/8 {
			m.Body.Cells = append(m.Body.Cells, someCell(r))
		}
		for _, field := range []*int{&m.Kind, &m.Micro, &m.Body.Rows, &m.Body.Cols} {
			if r.Intn(12) == 0 {
				*field = pick()
			}
		}
		if n := len(m.Body.Cells); n > 0 && r.Intn(8) == 0 {
			m.Body.Cells[r.Intn(n)] = pick()
		}
		told := toldOfEncode(m)
		tolds[told]++
		if told != api.OK {
			refuseEncode(t, "anything", m, told)
			continue
		}
		mustBoth(t, m, slowEncode(m))
	}
	for _, told := range []api.Errno{api.OK, api.ErrRange, api.ErrShape} {
		if tolds[told] < 1000 {
			t.Errorf("%v was seldom told: %v", told, tolds)
		}
	}
}

// toldOfEncode is what the chapter says of a message, in its order.
func toldOfEncode(m api.Message) api.Errno {
	if m.Kind < 1 || m.Kind > 2 || m.Micro < 0 || m.Micro > 11 {
		return api.ErrRange
	}
	return plain.Told(mat.Check(m.Body))
}
