package again

import (
	"galley/api"
	"galley/layer"
	"galley/mat"
)

// shelf has what is kept: what stands ahead of a layer by the layer's number,
// what comes of the last one by how many there are. How many were kept at once
// is counted as they come, not reckoned, so that it is what was truly kept.
type shelf struct {
	held map[int]api.Matrix
	most int
}

func (s *shelf) put(i int, a api.Matrix) {
	s.held[i] = a
	s.most = max(s.most, len(s.held))
}

// forth says what net's Go says, but goes layer by layer by itself, for that
// one keeps what stands behind each of them.
func forth(n []api.Layer, x api.Matrix, every int) (*shelf, error) {
	if len(n) > api.MaxLayers {
		return nil, api.ErrFull
	}
	if err := mat.Check(x); err != nil {
		return nil, err
	}
	s := &shelf{held: map[int]api.Matrix{}}
	last := x
	for i, l := range n {
		if i%every == 0 {
			s.put(i, last)
		}
		next, err := layer.Go(l, last)
		if err != nil {
			return nil, err
		}
		last = next
	}
	s.put(len(n), last)
	return s, nil
}

// back goes group by group, from the last one on, which may have fewer layers.
func (s *shelf) back(n []api.Layer, g api.Matrix, every int) ([]api.Grad, error) {
	grads := make([]api.Grad, len(n))
	for to := len(n); to > 0; {
		from := (to - 1) / every * every
		next, err := s.backGroup(n, from, to, g, grads)
		if err != nil {
			return nil, err
		}
		g, to = next, from
	}
	return grads, nil
}

// backGroup lays the Grads of the layers of a group in their places, and tells
// what goes back to the first of them.
func (s *shelf) backGroup(n []api.Layer, from, to int, g api.Matrix, grads []api.Grad) (api.Matrix, error) {
	if err := s.fill(n, from, to); err != nil {
		return api.Matrix{}, err
	}
	for i := to - 1; i >= from; i-- {
		next, grad, err := layer.Back(n[i], s.held[i], g)
		if err != nil {
			return api.Matrix{}, err
		}
		g, grads[i] = next, grad
		delete(s.held, i)
	}
	return g, nil
}

// fill reckons again what stands between the layers of a group. What stands
// behind its last one is not asked by any that goes back.
func (s *shelf) fill(n []api.Layer, from, to int) error {
	for i := from; i < to-1; i++ {
		next, err := layer.Go(n[i], s.held[i])
		if err != nil {
			return err
		}
		s.put(i+1, next)
	}
	return nil
}
