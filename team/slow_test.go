package team

import (
	"galley/api"
	"galley/batch"
	"galley/fix"
	"galley/plain"
	"galley/step"
	"galley/train"
)

// What stands here says the chapter once more, number by number.

// dealt gives the rows out by how many each hand has: one more round, one more row.
func (a asked) dealt() []api.Batch {
	sizes := make([]int, a.crew)
	for row := range a.b.In.Rows {
		sizes[row%a.crew]++
	}
	var hands []api.Batch
	from := 0
	for _, size := range sizes {
		hands = append(hands, batchOf(rowsOf(a.b.In, from, size), rowsOf(a.b.Want, from, size)))
		from += size
	}
	return hands
}

func rowsOf(m api.Matrix, from, count int) api.Matrix {
	return of(count, m.Cols, m.Cells[from*m.Cols:(from+count)*m.Cols]...)
}

// reckoned is what train's One tells of a hand. Of rates of 0 the speed is all
// that is to be turned, and nothing else.
func (a asked) reckoned(own api.Batch) ([]int, int) {
	s, off, err := train.One(a.s, own, a.parts, api.Rates{})
	if err != nil {
		panic(err)
	}
	return numbersOf(s.Speed), off
}

func numbersOf(grads []api.Grad) []int {
	var l []int
	for _, d := range grads {
		l = append(append(l, d.W.Cells...), d.B.Cells...)
	}
	return l
}

// pieceOf tells in which of so many pieces a number stands: as many hands, as
// many pieces, of which the first ones have one more where they are not even.
func pieceOf(place, count, crew int) int {
	for piece := range crew {
		size := count / crew
		if piece < count%crew {
			size++
		}
		if place < size {
			return piece
		}
		place -= size
	}
	panic("no piece")
}

// sumRound sums up what all hands have at one place as rings' Sum does.
func sumRound(l []int, piece int) int {
	sum := l[(piece+1)%len(l)]
	for i := 2; i <= len(l); i++ {
		sum = fix.Add(sum, l[(piece+i)%len(l)])
	}
	return sum
}

// sumHalves sums up what all hands have at one place as rings' Tree does.
func sumHalves(l []int) int {
	add := fix.Add
	switch len(l) {
	case 1:
		return l[0]
	case 2:
		return add(l[0], l[1])
	case 3:
		return add(add(l[0], l[1]), l[2])
	case 4:
		return add(add(l[0], l[1]), add(l[2], l[3]))
	case 5:
		return add(add(add(l[0], l[1]), l[2]), add(l[3], l[4]))
	case 6:
		return add(add(add(l[0], l[1]), l[2]), add(add(l[3], l[4]), l[5]))
	}
	panic("no hands")
}

// sumInOrder sums up one hand behind the other, which is what a team does not do.
func sumInOrder(l []int) int {
	sum := 0
	for _, x := range l {
		sum = fix.Add(sum, x)
	}
	return sum
}

// across gives what all hands have at one place.
func across(lists [][]int, place int) []int {
	var l []int
	for _, own := range lists {
		l = append(l, own[place])
	}
	return l
}

func sumsSlowly(lists [][]int) []int {
	var sums []int
	count := len(lists[0])
	for place := range lists[0] {
		l := across(lists, place)
		if count <= 60 {
			sums = append(sums, sumRound(l, pieceOf(place, count, len(l))))
		} else {
			sums = append(sums, sumHalves(l))
		}
	}
	return sums
}

// likeNet makes Grads of the shapes of a net.
func likeNet(n []api.Layer, numbers []int) []api.Grad {
	next := func(m api.Matrix) api.Matrix {
		own := numbers[:m.Rows*m.Cols]
		numbers = numbers[len(own):]
		return of(m.Rows, m.Cols, own...)
	}
	var grads []api.Grad
	for _, l := range n {
		w := next(l.W)
		grads = append(grads, api.Grad{W: w, B: next(l.B)})
	}
	return grads
}

// lists has what each hand is to turn, and how far off all are.
func (a asked) lists() ([][]int, int) {
	var lists [][]int
	sum := 0
	for _, own := range a.dealt() {
		l, off := a.reckoned(own)
		lists, sum = append(lists, l), min(sum+off, top)
	}
	return lists, sum
}

func (a asked) slowly() (train.State, int) {
	lists, off := a.lists()
	n, speed, err := step.Do(a.s.Net, a.s.Speed, likeNet(a.s.Net, sumsSlowly(lists)), a.r)
	if err != nil {
		panic(err)
	}
	return train.State{Net: n, Speed: speed, Steps: a.s.Steps + 1}, off
}

func (a asked) oneSlowly() string {
	s, off := a.slowly()
	return answer(s, off, nil)
}

func (a asked) allSlowly(l ...api.Batch) string {
	offs := []int{}
	for _, b := range l {
		a.b = b
		s, off := a.slowly()
		a.s, offs = s, append(offs, off)
	}
	return answer(a.s, offs, nil)
}

// toldOf is what the chapter says is wrong, in its order.
func toldOf(a asked) api.Errno {
	if err := train.Check(a.s); err != nil {
		return plain.Told(err)
	}
	if a.crew < 1 || a.crew > 6 {
		return api.ErrRange
	}
	if err := batch.Check(a.b); err != nil {
		return plain.Told(err)
	}
	if a.b.In.Rows < a.crew {
		return api.ErrShape
	}
	for _, own := range a.dealt() {
		if _, _, err := train.One(a.s, own, a.parts, a.r); err != nil {
			return plain.Told(err)
		}
	}
	return api.OK
}
