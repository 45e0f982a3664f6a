package keep

import (
	"bytes"
	"errors"

	"galley/api"
	"galley/train"
	"galley/wire"
)

// reader goes through bytes; those ahead of at are read. With err it has
// stopped, and what it tells from then on is nothing.
type reader struct {
	bytes []byte
	at    int
	err   error
}

func (r *reader) stopped() bool { return errors.Is(r.err, api.ErrSyntax) }

// demand stops where something is not as it must be.
func (r *reader) demand(holds bool) {
	if !holds {
		r.err = api.ErrSyntax
	}
}

// next reads what stands next, if nothing ahead of it has stopped the reader.
func next[T any](r *reader, read func(b []byte) (T, int, error)) T {
	if r.stopped() {
		var nothing T
		return nothing
	}
	x, long, err := read(r.bytes[r.at:])
	r.at, r.err = r.at+long, err
	return x
}

func (r *reader) number() int { return next(r, wire.ReadNumber) }

func (r *reader) matrix() api.Matrix { return next(r, wire.ReadMatrix) }

// state reads all bytes. It may still be one that train's Check refuses.
func (r *reader) state() train.State {
	r.head()
	s := train.State{Steps: r.number()}
	layers := r.number()
	// Of more layers there is no state, though there be bytes for all of them.
	r.demand(layers <= api.MaxLayers)
	for i := 0; i < layers && !r.stopped(); i++ {
		s.Net = append(s.Net, api.Layer{Kind: r.number(), W: r.matrix(), B: r.matrix()})
		s.Speed = append(s.Speed, api.Grad{W: r.matrix(), B: r.matrix()})
	}
	r.tail()
	return s
}

func (r *reader) head() {
	r.demand(bytes.HasPrefix(r.bytes, []byte(head)))
	if !r.stopped() {
		r.at = len(head)
	}
}

// tail holds what is left against the sums of all that is read: nothing else may stand there.
func (r *reader) tail() {
	sums := wire.Sums(r.bytes[:r.at])
	r.demand(bytes.Equal(r.bytes[r.at:], sums[:]))
}
