package wire

import (
	"encoding/binary"
	"math/rand"
	"slices"
	"testing"

	"galley/api"
	"galley/plain"
)

// message has a message whose Body has so many rows and columns.
func message(kind, micro, rows, cols int, cells ...int) api.Message {
	return api.Message{Kind: kind, Micro: micro, Body: api.Matrix{Rows: rows, Cols: cols, Cells: cells}}
}

// filled has a message all cells of which are the same.
func filled(kind, micro, rows, cols, x int) api.Message {
	return message(kind, micro, rows, cols, slices.Repeat([]int{x}, rows*cols)...)
}

// bytesOf has bytes that are told as numbers.
func bytesOf(list ...int) []byte {
	var b []byte
	for _, x := range list {
		b = append(b, byte(x))
	}
	return b
}

// slowSums takes each byte as often as there are sums that it is in, and what
// is left at the very end.
func slowSums(b []byte) []byte {
	var whole, ofSums int
	for i, x := range b {
		whole += int(x)
		ofSums += (len(b) - i) * int(x)
	}
	return bytesOf(whole%255, ofSums%255)
}

// summed has bytes, and their sums behind them.
func summed(parts ...[]byte) []byte {
	b := slices.Concat(parts...)
	return append(b, slowSums(b)...)
}

// slowNumber and slowCell write by the library, whose form is the same.
func slowNumber(x uint64) []byte { return binary.AppendUvarint(nil, x) }

func slowCell(x int) []byte { return binary.AppendVarint(nil, int64(x)) }

// parts has the bytes of each number of a message by itself, without the sums.
func parts(m api.Message) [][]byte {
	var list [][]byte
	for _, x := range []int{m.Kind, m.Micro, m.Body.Rows, m.Body.Cols} {
		list = append(list, slowNumber(uint64(x)))
	}
	for _, x := range m.Body.Cells {
		list = append(list, slowCell(x))
	}
	return list
}

// slowEncode takes what is right.
func slowEncode(m api.Message) []byte { return summed(parts(m)...) }

// readSlowly reads a number by the library, and holds it against how it would be written.
func readSlowly(b []byte) (x uint64, n int, ok bool) {
	x, n = binary.Uvarint(b)
	return x, n, n > 0 && n <= 9 && len(slowNumber(x)) == n
}

// slowDecode is false where no message begins.
func slowDecode(b []byte) (api.Message, int, bool) {
	var head [4]uint64
	at := 0
	for i, last := range []uint64{2, 11, 24, 12} {
		x, n, ok := readSlowly(b[at:])
		if !ok || x > last {
			return api.Message{}, 0, false
		}
		head[i] = x
		at += n
	}
	m := message(int(head[0]), int(head[1]), int(head[2]), int(head[3]))
	for range head[2] * head[3] {
		_, n, ok := readSlowly(b[at:])
		if !ok {
			return api.Message{}, 0, false
		}
		x, _ := binary.Varint(b[at:])
		if x < -2147483647 || x > 2147483647 {
			return api.Message{}, 0, false
		}
		m.Body.Cells = append(m.Body.Cells, int(x))
		at += n
	}
	if m.Kind == 0 || len(b) < at+2 || !slices.Equal(b[at:at+2], slowSums(b[:at])) {
		return api.Message{}, 0, false
	}
	return m, at + 2, true
}

func sameMessage(a, b api.Message) bool {
	return a.Kind == b.Kind && a.Micro == b.Micro && a.Body.Rows == b.Body.Rows && a.Body.Cols == b.Body.Cols &&
		slices.Equal(a.Body.Cells, b.Body.Cells)
}

// isNothing: nothing stands beside an error.
func isNothing(m api.Message) bool {
	return m.Kind == 0 && m.Micro == 0 && m.Body.Rows == 0 && m.Body.Cols == 0 && len(m.Body.Cells) == 0
}

func mustEncode(t *testing.T, m api.Message, want []byte) {
	t.Helper()
	if got, err := Encode(m); err != nil || !slices.Equal(got, want) {
		t.Errorf("Encode(%v) = %v, %v, want %v", m, got, err, want)
	}
}

func refuseEncode(t *testing.T, name string, m api.Message, told api.Errno) {
	t.Helper()
	if got, err := Encode(m); len(got) != 0 || plain.Told(err) != told {
		t.Errorf("%s: Encode(%v) = %v, %v, want nothing and %v", name, m, got, err, told)
	}
}

func mustDecode(t *testing.T, b []byte, want api.Message, long int) {
	t.Helper()
	if got, n, err := Decode(b); err != nil || n != long || !sameMessage(got, want) {
		t.Errorf("Decode(%v) = %v, %d, %v, want %v, %d", b, got, n, err, want, long)
	}
}

func refuseDecode(t *testing.T, name string, b []byte) {
	t.Helper()
	if got, n, err := Decode(b); !isNothing(got) || n != 0 || plain.Told(err) != api.ErrSyntax {
		t.Errorf("%s: Decode(%v) = %v, %d, %v, want nothing and ErrSyntax", name, b, got, n, err)
	}
}

// mustBoth holds Encode and Decode of a message against its bytes.
func mustBoth(t *testing.T, m api.Message, b []byte) {
	t.Helper()
	mustEncode(t, m, b)
	mustDecode(t, b, m, len(b))
}

// mustBeAsSlow holds Decode against slowDecode, and tells whether there is a message.
func mustBeAsSlow(t *testing.T, name string, b []byte) bool {
	t.Helper()
	want, n, ok := slowDecode(b)
	if !ok {
		refuseDecode(t, name, b)
		return false
	}
	mustDecode(t, b, want, n)
	return true
}

// edges are cells at which something changes: how many bytes they have, on
// which side of 0 they are, and that they end.
func edges() []int {
	list := []int{0}
	for bits := range 32 {
		for _, x := range []int{1<<bits - 1, 1 << bits, 1<<bits + 1} {
			if x <= api.Top {
				list = append(list, x, -x)
			}
		}
	}
	return list
}

func someCell(r *rand.Rand) int {
	if all := edges(); r.Intn(2) == 0 {
		return all[r.Intn(len(all))]
	}
	return r.Intn(2*api.Top+1) - api.Top
}

func someMessage(r *rand.Rand, rows, cols int) api.Message {
	m := message(1+r.Intn(2), r.Intn(api.MaxMicros), rows, cols)
	for range rows * cols {
		m.Body.Cells = append(m.Body.Cells, someCell(r))
	}
	return m
}

// right are messages of all kinds that Encode takes.
func right() []api.Message {
	list := []api.Message{
		message(1, 2, 1, 2, -3, 100),
		message(1, 0, 0, 0),
		message(2, 11, 0, 0),
		message(2, 3, 0, 12),
		message(1, 4, 24, 0),
		message(2, 11, 1, 1, 0),
		filled(1, 0, 24, 12, 0),
		filled(2, 11, 24, 12, api.Top),
		filled(1, 5, 24, 12, -api.Top),
		message(1, 7, 2, 3, 0, -1, 1, 63, -64, 64),
		message(2, 8, 3, 2, api.Top, -api.Top, api.Top-1, 1-api.Top, 0, -65),
	}
	r := rand.New(rand.NewSource(1))
	for range 20 {
		list = append(list, someMessage(r, r.Intn(api.MaxRows+1), r.Intn(api.MaxSide+1)))
	}
	return list
}
