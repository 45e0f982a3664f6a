package team

import (
	"iter"

	"galley/api"
	"galley/fix"
	"galley/net"
	"galley/rings"
	"galley/train"
)

// together tells by how much all hands are to turn the net, and how far off all
// of them are.
func together(n []api.Layer, hands []api.Batch, parts int) ([]api.Grad, int, error) {
	lists := make([][]int, 0, len(hands))
	off := 0
	for _, own := range hands {
		by, far, err := train.Reckon(n, own, parts)
		if err != nil {
			return nil, 0, err
		}
		lists = append(lists, listed(by))
		off = fix.Add(off, far)
	}
	sums, err := sumUp(lists)
	if err != nil {
		return nil, 0, err
	}
	return unlisted(n, sums), off, nil
}

// sumUp is asked of lists that are as long, as all hands have the same net.
func sumUp(lists [][]int) ([]int, error) {
	if len(lists[0]) > rings.MaxNumbers {
		return someAtATime(lists)
	}
	sums, err := rings.Sum(lists)
	if err != nil {
		return nil, err
	}
	// All hands have the same sums.
	return sums[0], nil
}

func someAtATime(lists [][]int) ([]int, error) {
	count := len(lists[0])
	sums := make([]int, 0, count)
	for from := 0; from < count; from += rings.MaxNumbers {
		some, err := rings.Tree(piece(lists, from, min(from+rings.MaxNumbers, count)))
		if err != nil {
			return nil, err
		}
		sums = append(sums, some...)
	}
	return sums, nil
}

func piece(lists [][]int, from, to int) [][]int {
	pieces := make([][]int, 0, len(lists))
	for _, own := range lists {
		pieces = append(pieces, own[from:to])
	}
	return pieces
}

// cells goes through the cells of all matrices, layer by layer, of each first
// W's, then B's. It is the one place that knows this order, so that sums come
// back to where the numbers were taken from.
func cells(grads []api.Grad) iter.Seq[[]int] {
	return func(yield func(own []int) bool) {
		for _, d := range grads {
			if !yield(d.W.Cells) || !yield(d.B.Cells) {
				return
			}
		}
	}
}

func listed(grads []api.Grad) []int {
	var list []int
	for own := range cells(grads) {
		list = append(list, own...)
	}
	return list
}

// unlisted writes into cells that Zero made, so that no two matrices share any.
func unlisted(n []api.Layer, list []int) []api.Grad {
	grads := net.Zero(n)
	for own := range cells(grads) {
		list = list[copy(own, list):]
	}
	return grads
}
