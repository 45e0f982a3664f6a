package again

import (
	"galley/api"
	"galley/loss"
	"galley/net"
	"galley/plain"
)

// What stands here says the chapter once more: a net that keeps all goes there
// and back, and what would be kept is counted place by place.

func (a asked) slowly() string {
	saw, err := net.Go(a.n, a.x)
	if err != nil {
		panic(err)
	}
	off, err := loss.Of(saw[len(a.n)], a.want)
	if err != nil {
		panic(err)
	}
	g, err := loss.Back(saw[len(a.n)], a.want)
	if err != nil {
		panic(err)
	}
	_, grads, err := net.Back(a.n, saw, g)
	if err != nil {
		panic(err)
	}
	return answer(grads, off, mostSlowly(len(a.n), a.every), nil)
}

// keptSlowly counts what is kept while the group of a layer goes back. The place
// of a matrix is the number of the layer that it stands ahead of.
func keptSlowly(layers, every, at int) int {
	count := 1
	for place := range layers {
		head := place%every == 0 && place <= at
		between := place%every != 0 && place/every == at/every
		if head || between {
			count++
		}
	}
	return count
}

func mostSlowly(layers, every int) int {
	most := 1
	for at := range layers {
		most = max(most, keptSlowly(layers, every, at))
	}
	return most
}

// toldOf is what the chapter says is wrong, in its order.
func toldOf(a asked) api.Errno {
	if a.every < 1 || a.every > 12 {
		return api.ErrRange
	}
	saw, err := net.Go(a.n, a.x)
	if err != nil {
		return plain.Told(err)
	}
	got := saw[len(a.n)]
	if _, err := loss.Of(got, a.want); err != nil {
		return plain.Told(err)
	}
	_, _, err = net.Back(a.n, saw, got)
	return plain.Told(err)
}
