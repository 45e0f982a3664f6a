package keep

import (
	"fmt"
	"math"
	"math/rand"
	"slices"
	"testing"

	"galley/api"
	"galley/train"
)

func TestS2NoBytes(t *testing.T) {
	refuseLoad(t, "none", nil)
	refuseLoad(t, "an empty list", []byte{})
	refuseLoad(t, "an empty piece", slowSave(small())[:0])
	for x := range 256 {
		refuseLoad(t, "one byte", bytesOf(x))
		refuseLoad(t, "a byte behind the first", bytesOf(71, x))
		refuseLoad(t, "a byte, over and over", slices.Repeat(bytesOf(x), 2000))
		refuseLoad(t, "a byte, over and over, and its sums", summed(slices.Repeat(bytesOf(x), 2000)))
	}
	refuseLoad(t, "only the first two", bytesOf(71, 1))
	refuseLoad(t, "only the first two, and their sums", summed(bytesOf(71, 1)))
	refuseLoad(t, "only the sums of none", bytesOf(0, 0))
}

// TestS2Shorter: of no beginning of a state's bytes there is a state, nor where
// its own sums are behind it.
func TestS2Shorter(t *testing.T) {
	for i, s := range right() {
		b := slowSave(s)
		for long := range b {
			// Of the greater ones not all beginnings, for there are so many.
			if long > 150 && long < len(b)-20 && long%97 != 0 {
				continue
			}
			name := fmt.Sprintf("state %d, %d bytes of %d", i, long, len(b))
			refuseLoad(t, name, b[:long])
			refuseLoad(t, name, slices.Clone(b[:long]))
			if long < len(b)-2 {
				refuseLoad(t, name+", and sums", summed(b[:long]))
			}
		}
	}
}

// TestS2Longer: whatever stands behind a state's bytes, there is none.
func TestS2Longer(t *testing.T) {
	for i, s := range right() {
		b := slowSave(s)
		name := fmt.Sprint("state ", i)
		for x := range 256 {
			refuseLoad(t, name, append(slices.Clone(b), byte(x)))
		}
		ahead := b[:len(b)-2]
		for _, behind := range [][]byte{{0}, {0, 0}, {1, 2, 3}, {71, 1}, make([]byte, 500), b, b[len(b)-2:]} {
			refuseLoad(t, name, slices.Concat(b, behind))
			refuseLoad(t, name+", with new sums", summed(b, behind))
			refuseLoad(t, name+", ahead of the sums", summed(ahead, behind))
			refuseLoad(t, name+", ahead of all", slices.Concat(behind, b))
		}
	}
}

// TestS2FirstBytes: each other first or second byte, also where the sums are right.
func TestS2FirstBytes(t *testing.T) {
	for i, s := range littleOnes() {
		for place := range 2 {
			list := parts(s)
			for x := range 256 {
				if byte(x) == list[place][0] {
					continue
				}
				other := slices.Clone(list)
				other[place] = bytesOf(x)
				refuseLoad(t, fmt.Sprintf("state %d, byte %d is %d", i, place, x), summed(other...))
			}
			without := slices.Delete(slices.Clone(list), place, place+1)
			refuseLoad(t, fmt.Sprintf("state %d without byte %d", i, place), summed(without...))
		}
		list := parts(s)
		list[0], list[1] = list[1], list[0]
		refuseLoad(t, "changed places", summed(list...))
		// As numbers these would be the same, but they are bytes.
		for place := range 2 {
			longer := parts(s)
			longer[place] = []byte{longer[place][0] + 128, 0}
			refuseLoad(t, "longer", summed(longer...))
		}
	}
}

// TestS2OtherForms: each number of a state, written longer than it need be, or
// so long that only its lower end is right, or without an end; the sums are right.
func TestS2OtherForms(t *testing.T) {
	for _, s := range littleOnes() {
		for place := range parts(s) {
			if place < 2 {
				continue
			}
			longer := func(rest ...byte) {
				t.Helper()
				list := parts(s)
				number := slices.Clone(list[place])
				number[len(number)-1] += 128
				list[place] = append(number, rest...)
				refuseLoad(t, fmt.Sprint("number ", place), summed(list...))
			}
			for long := range 12 {
				ahead := slices.Repeat([]byte{128}, long)
				longer(append(ahead, 0)...)
				// From five more bytes on there is nothing that may be.
				if long >= 4 {
					longer(append(ahead, 1)...)
					longer(append(ahead, 127)...)
				}
			}
			endless := parts(s)[:place+1]
			endless[place] = slices.Repeat([]byte{255}, 200)
			refuseLoad(t, "a number that does not end", summed(endless...))
		}
	}
}

// TestS2TenBytes: a number has nine bytes at most, also where ten would come to one that may be.
func TestS2TenBytes(t *testing.T) {
	ten := append(slices.Repeat([]byte{128}, 9), 2)
	for place := 2; place < len(parts(small())); place++ {
		list := parts(small())
		list[place] = ten
		refuseLoad(t, fmt.Sprint("number ", place), summed(list...))
	}
	refuseLoad(t, "Steps", summed(bytesOf(71, 1), ten, bytesOf(0)))
	refuseLoad(t, "layers", summed(bytesOf(71, 1, 0), ten))
}

// TestS2Sums: each other sum, the first and the second; 255 is not what 0 is.
func TestS2Sums(t *testing.T) {
	for i, s := range right() {
		b := slowSave(s)
		for place := len(b) - 2; place < len(b); place++ {
			for by := 1; by < 256; by++ {
				turned := slices.Clone(b)
				turned[place] += byte(by)
				refuseLoad(t, fmt.Sprint("a sum of state ", i), turned)
			}
		}
		last := len(b) - 1
		if b[last] == b[last-1] {
			continue
		}
		b[last], b[last-1] = b[last-1], b[last]
		refuseLoad(t, fmt.Sprint("the sums of state ", i, " changed places"), b)
	}
	// 71, 1, 182 and 1 are 255.
	mustLoad(t, "a sum of 0", bytesOf(71, 1, 182, 1, 0, 0, 142), train.State{Steps: 182})
	refuseLoad(t, "a sum of 255", bytesOf(71, 1, 182, 1, 0, 255, 142))
	mustLoad(t, "a second sum of 0", slowSave(zeroSum()), zeroSum())
	b := slowSave(zeroSum())
	b[len(b)-1] = 255
	refuseLoad(t, "a second sum of 255", b)
}

// zeroSum has the least Steps of which the second sum is 0.
func zeroSum() train.State {
	s := train.State{}
	for slowSave(s)[len(slowSave(s))-1] != 0 {
		s.Steps++
	}
	return s
}

// numbersBeyond are such as neither a number of a state nor a cell is written by.
func numbersBeyond() []uint64 {
	list := []uint64{math.MaxInt, math.MaxInt - 1, 1 << 62, 1<<62 + 1}
	for _, bits := range []int{32, 33, 40, 48, 56} {
		list = append(list, 1<<bits, 1<<bits+1, 1<<bits+2, 1<<bits+3, 1<<bits+4)
	}
	return list
}

// TestS2ReadButNoState: all numbers are read and the sums are right, but
// what is read is no state: numbers that look like others at their lower ends.
func TestS2ReadButNoState(t *testing.T) {
	for _, s := range []train.State{small(), train.Begin(small().Net), train.Begin(netOf(reluOf())), {}} {
		for place := 2; place < len(parts(s)); place++ {
			for _, x := range numbersBeyond() {
				list := parts(s)
				list[place] = slowNumber(x)
				refuseLoad(t, fmt.Sprint(x, " as number ", place), summed(list...))
			}
		}
	}
	for _, steps := range []uint64{1e9 + 1, 1e9 + 2, 1 << 30, 1 << 32, math.MaxInt} {
		refuseLoad(t, "Steps", summed(bytesOf(71, 1), slowNumber(steps), bytesOf(0)))
	}
	mustLoad(t, "as many Steps as may be", summed(bytesOf(71, 1), slowNumber(1e9), bytesOf(0)), train.State{Steps: 1e9})
}

// TestS2CheckRefuses: the bytes of states that train's Check refuses.
func TestS2CheckRefuses(t *testing.T) {
	asked := 0
	for _, f := range everyFault() {
		s := small()
		f.spoil(&s)
		if len(s.Net) != len(s.Speed) {
			continue
		}
		asked++
		refuseLoad(t, f.name, slowSave(s))
	}
	if asked < 100 {
		t.Errorf("only %d were asked", asked)
	}
	for _, l := range []api.Layer{
		{Kind: api.Relu, W: of(0, 1)},
		{Kind: api.Relu, B: of(1, 0)},
		{Kind: api.Relu, W: of(24, 0)},
		{Kind: api.Scale},
		{Kind: api.Scale, W: of(1, 1, 5), B: of(1, 1, 5)},
		{Kind: api.Scale, W: of(1, 2, 5, 5)},
		{Kind: api.Shift},
		{Kind: api.Shift, B: of(2, 1, 1, 2)},
		{Kind: api.Shift, B: of(1, 0)},
		linearOf(of(0, 1), of(1, 1, 1)),
		linearOf(of(2, 2, 1, 2, 3, 4), of(1, 1, 1)),
		linearOf(full(13, 1, 0), of(1, 1, 1)),
	} {
		s := train.Begin(netOf(l))
		refuseSave(t, "a layer's shape", s, api.ErrShape)
		refuseLoad(t, "a layer's shape", slowSave(s))
	}
	for _, speed := range []api.Grad{{}, {W: of(1, 1, 1), B: of(0, 1)}, {W: of(1, 1, 1), B: of(1, 1, 1)}, {W: of(1, 2, 1, 2)}, {B: of(1, 1, 1)}} {
		s := stateOf(netOf(scaleOf(5)), gradsOf(speed), 0)
		refuseSave(t, "a speed's shape", s, api.ErrShape)
		refuseLoad(t, "a speed's shape", slowSave(s))
	}
}

// TestS2CellsAtTheEnds: the last numbers that are cells, and the next ones.
func TestS2CellsAtTheEnds(t *testing.T) {
	with := func(cell ...byte) []byte {
		return summed(bytesOf(71, 1, 0, 1, 3, 1, 1), cell, bytesOf(0, 0, 1, 1, 0, 0, 0))
	}
	mustLoad(t, "Top", with(254, 255, 255, 255, 15), train.Begin(netOf(scaleOf(top))))
	mustLoad(t, "-Top", with(253, 255, 255, 255, 15), train.Begin(netOf(scaleOf(-top))))
	refuseLoad(t, "below -Top", with(255, 255, 255, 255, 15))
	refuseLoad(t, "above Top", with(128, 128, 128, 128, 16))
	refuseLoad(t, "the greatest that is read", with(255, 255, 255, 255, 255, 255, 255, 255, 127))
}

// TestS2MoreLayers: than there are bytes for, or than may be; the sums are right.
func TestS2MoreLayers(t *testing.T) {
	relu := bytesOf(2, 0, 0, 0, 0, 0, 0, 0, 0)
	for _, told := range []uint64{0, 1, 2, 11, 12, 13, 14, 24, 127, 128, 1 << 16, 1 << 31, 1 << 32, 1<<32 + 1, 1 << 62, math.MaxInt} {
		for there := range 20 {
			name := fmt.Sprint(told, " layers, and bytes of ", there)
			b := summed(bytesOf(71, 1, 9), slowNumber(told), slices.Repeat(relu, there))
			if int(told) == there && told <= 12 {
				mustLoad(t, name, b, stateOf(slices.Repeat(netOf(reluOf()), there), make([]api.Grad, there), 9))
				continue
			}
			refuseLoad(t, name, b)
		}
	}
	for _, count := range []int{13, 14, 1000} {
		refuseLoad(t, fmt.Sprint(count, " layers"), summed(bytesOf(71, 1, 9), slowNumber(uint64(count)), slices.Repeat(relu, count)))
	}
	for _, s := range littleOnes() {
		for layers := range 14 {
			if layers != len(s.Net) {
				list := parts(s)
				list[3] = slowNumber(uint64(layers))
				refuseLoad(t, "another number of layers", summed(list...))
			}
		}
	}
}

// TestS2ManyBytes: many more than any state has are looked at no longer than need be.
func TestS2ManyBytes(t *testing.T) {
	many := make([]byte, 1<<26)
	refuseLoad(t, "zeros", many)
	copy(many, slowSave(greatest()))
	refuseLoad(t, "zeros behind a state", many)
	copy(many, summed(bytesOf(71, 1, 0), slowNumber(1<<22)))
	refuseLoad(t, "many layers", many)
	for _, more := range []int{api.MaxBytes - 6, api.MaxBytes - 5, api.MaxBytes} {
		refuseLoad(t, "about MaxBytes", summed(bytesOf(71, 1, 0, 0), make([]byte, more)))
	}
}

// TestS2OneByteTurned: every byte of some states turned to each other one.
func TestS2OneByteTurned(t *testing.T) {
	for _, s := range littleOnes() {
		b := slowSave(s)
		for place := range b {
			for by := 1; by < 256; by++ {
				turned := slices.Clone(b)
				turned[place] += byte(by)
				mustBeAsSlow(t, fmt.Sprint("byte ", place), turned)
				mustBeAsSlow(t, fmt.Sprint("byte ", place, ", with its sums"), summed(turned[:len(b)-2]))
			}
		}
	}
}

// TestS2NumbersTurned: every number of some states turned to another one, with its sums.
func TestS2NumbersTurned(t *testing.T) {
	found := 0
	for _, s := range append(littleOnes(), small()) {
		for place := range parts(s) {
			for x := range uint64(300) {
				list := parts(s)
				list[place] = slowNumber(x)
				if mustBeAsSlow(t, fmt.Sprint("number ", place), summed(list...)) {
					found++
				}
			}
		}
	}
	if found < 1000 {
		t.Errorf("there were only %d states", found)
	}
}

// TestS2BytesThatChangedPlaces: the second sum tells of it, where the first does not.
func TestS2BytesThatChangedPlaces(t *testing.T) {
	for _, s := range littleOnes() {
		b := slowSave(s)
		for place := range len(b) - 1 {
			turned := slices.Clone(b)
			turned[place], turned[place+1] = turned[place+1], turned[place]
			mustBeAsSlow(t, "changed places", turned)
		}
	}
	// The cells 5 and 6 of a Shift.
	b := slowSave(train.Begin(netOf(shiftOf(5, 6))))
	mustLoad(t, "as they were", b, train.Begin(netOf(shiftOf(5, 6))))
	b[9], b[10] = b[10], b[9]
	refuseLoad(t, "cells", b)
	mustLoad(t, "with their own sums", summed(b[:len(b)-2]), train.Begin(netOf(shiftOf(6, 5))))
}

// TestRuleP1EveryCallEnds: whatever the bytes, something is told, and it is as
// the tests' own reading tells it.
func TestRuleP1EveryCallEnds(t *testing.T) {
	r := rand.New(rand.NewSource(4))
	little := littleOnes()
	tolds := map[bool]int{}
	for range 100000 {
		var b []byte
		list := parts(little[r.Intn(len(little))])
		switch r.Intn(5) {
		case 0:
			b = someBytes(r, r.Intn(60))
		case 1:
			b = summed(bytesOf(71, 1, r.Intn(128), r.Intn(3)), someBytes(r, r.Intn(30)))
		case 2:
			list[r.Intn(len(list))] = slowNumber(r.Uint64() >> r.Intn(64))
			b = summed(list...)
		case 3:
			for range r.Intn(4) {
				at := r.Intn(len(list))
				list = slices.Delete(list, at, min(len(list), at+r.Intn(3)))
				at = r.Intn(len(list) + 1)
				list = slices.Insert(list, at, slowNumber(uint64(r.Intn(4))))
			}
			b = summed(list...)
		default:
			b = summed(list...)
		}
		tolds[mustBeAsSlow(t, "anything", b)]++
	}
	if tolds[true] < 1000 || tolds[false] < 1000 {
		t.Errorf("states or none: %v", tolds)
	}
}

func someBytes(r *rand.Rand, long int) []byte {
	b := make([]byte, long)
	for i := range b {
		b[i] = byte(r.Intn(256))
	}
	return b
}
