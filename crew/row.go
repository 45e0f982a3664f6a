package crew

import (
	"sync"

	"galley/api"
	"galley/fix"
	"galley/loss"
)

// row lets all stages work at once, till all have done their acts. It tells by
// how much the net is to be turned, and how far off it is.
func row(n []api.Layer, l []api.Batch, ends []int, acts [][]api.Act) ([]api.Grad, int, error) {
	there, back := channels(len(ends)+1, len(l)), channels(len(ends)+1, len(l))
	stages := manned(n, ends, acts, there, back)
	var working sync.WaitGroup
	for _, s := range stages {
		working.Add(1)
		go func() {
			defer working.Done()
			s.work()
		}()
	}
	handIn(l, there[0])
	off, err := turnRound(l, way{there[len(ends)], back[len(ends)]})
	working.Wait()
	if err != nil {
		return nil, 0, err
	}
	by, err := gathered(stages)
	if err != nil {
		return nil, 0, err
	}
	return by, off, nil
}

// channels have room for all parts: nobody waits but for what an act needs, so
// that all stages come to their end by every plan that can be done. And what
// goes back of the first stage, which nobody takes, keeps nobody.
func channels(count, room int) []chan api.Message {
	var l []chan api.Message
	for range count {
		l = append(l, make(chan api.Message, room))
	}
	return l
}

// manned has the stages, each between two channels of each way.
func manned(n []api.Layer, ends []int, acts [][]api.Act, there, back []chan api.Message) []*stage {
	var stages []*stage
	from := 0
	for i, end := range ends {
		stages = append(stages, newStage(n[from:end], acts[i], way{there[i], there[i+1]}, way{back[i+1], back[i]}))
		from = end
	}
	return stages
}

func handIn(l []api.Batch, to chan<- api.Message) {
	for part, b := range l {
		to <- api.Message{Kind: api.Forward, Micro: part, Body: b.In}
	}
}

// turnRound sends back how far each part is off that comes of the last stage, in
// whatever order that stage takes them. The sum is made in the order of the parts.
func turnRound(l []api.Batch, end way) (int, error) {
	offs := make([]int, len(l))
	var wrong error
	for range l {
		m := <-end.from
		off, g, err := judge(m.Body, l[m.Micro].Want)
		if wrong == nil {
			wrong = err
		}
		offs[m.Micro] = off
		end.to <- api.Message{Kind: api.Backward, Micro: m.Micro, Body: g}
	}
	sum := 0
	for _, off := range offs {
		sum = fix.Add(sum, off)
	}
	return sum, wrong
}

func judge(got, want api.Matrix) (int, api.Matrix, error) {
	off, err := loss.Of(got, want)
	if err != nil {
		return 0, api.Matrix{}, err
	}
	g, err := loss.Back(got, want)
	if err != nil {
		return 0, api.Matrix{}, err
	}
	return off, g, nil
}

// gathered has what all layers are to be turned by, in their order.
func gathered(stages []*stage) ([]api.Grad, error) {
	var by []api.Grad
	for _, s := range stages {
		if s.err != nil {
			return nil, s.err
		}
		by = append(by, s.sum...)
	}
	return by, nil
}
