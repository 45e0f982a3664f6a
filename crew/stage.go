package crew

import (
	"galley/api"
	"galley/net"
)

// way is one of the two along which parts go, there and back: what comes to a
// stage by it, and what goes on from it. Each channel has one who sends and one
// who receives, so that what stands in it, and in which order, hangs on the plan
// alone.
type way struct {
	from <-chan api.Message
	to   chan<- api.Message
}

// stage has some of the layers, and does its acts in their order. While it works
// nobody else touches what it has but its channels.
type stage struct {
	layers      []api.Layer
	acts        []api.Act
	there, back way
	early       map[api.Act]api.Matrix
	saw         map[int][]api.Matrix
	sum         []api.Grad
	err         error
}

func newStage(layers []api.Layer, acts []api.Act, there, back way) *stage {
	return &stage{
		layers: layers,
		acts:   acts,
		there:  there,
		back:   back,
		early:  map[api.Act]api.Matrix{},
		saw:    map[int][]api.Matrix{},
		sum:    net.Zero(layers),
	}
}

// work does all acts. Where one fails, something empty is handed on in its
// place: else those would wait for ever who need what comes of it.
func (s *stage) work() {
	for _, act := range s.acts {
		along := s.there
		if act.Kind == api.Backward {
			along = s.back
		}
		body, err := s.do(act, s.await(act, along.from))
		if s.err == nil {
			s.err = err
		}
		along.to <- api.Message{Kind: act.Kind, Micro: act.Micro, Body: body}
	}
}

// await gives what an act needs. The stage that sends it may take the parts in
// another order: what comes too early is laid aside till its act.
func (s *stage) await(act api.Act, from <-chan api.Message) api.Matrix {
	if body, found := s.early[act]; found {
		delete(s.early, act)
		return body
	}
	for {
		m := <-from
		came := api.Act{Kind: m.Kind, Micro: m.Micro}
		if came == act {
			return m.Body
		}
		s.early[came] = m.Body
	}
}

func (s *stage) do(act api.Act, came api.Matrix) (api.Matrix, error) {
	if act.Kind == api.Forward {
		return s.forward(act.Micro, came)
	}
	return s.backward(act.Micro, came)
}

func (s *stage) forward(part int, x api.Matrix) (api.Matrix, error) {
	saw, err := net.Go(s.layers, x)
	if err != nil {
		return api.Matrix{}, err
	}
	s.saw[part] = saw
	return saw[len(s.layers)], nil
}

// backward gathers at once, so that the sums are made in the order of the
// Backwards, which of an even plan is that of the parts.
func (s *stage) backward(part int, g api.Matrix) (api.Matrix, error) {
	to, by, err := net.Back(s.layers, s.saw[part], g)
	if err != nil {
		return api.Matrix{}, err
	}
	delete(s.saw, part)
	s.sum, err = net.Gather(s.sum, by)
	if err != nil {
		return api.Matrix{}, err
	}
	return to, nil
}
