package rings

import (
	"slices"
	"sync"
)

// worker stands in a ring between two others. While it works nobody else
// touches its sums, and nobody writes into what it was handed.
type worker struct {
	number, crew int
	own, sums    []int
	from         <-chan []int
	to           chan<- []int
}

// round lets all workers work at once, till each has all sums.
func round(parts [][]int) [][]int {
	workers := manned(parts)
	var working sync.WaitGroup
	for _, w := range workers {
		working.Add(1)
		go func() {
			defer working.Done()
			w.work()
		}()
	}
	working.Wait()
	sums := make([][]int, 0, len(workers))
	for _, w := range workers {
		sums = append(sums, w.sums)
	}
	return sums
}

// manned has the workers, each with one channel from the worker ahead of it and
// one to the next. A channel has room for one list: all send before they
// receive, and without room they would all wait for one another.
func manned(parts [][]int) []*worker {
	crew := len(parts)
	ring := make([]chan []int, crew)
	for i := range ring {
		ring[i] = make(chan []int, 1)
	}
	workers := make([]*worker, 0, crew)
	for i, own := range parts {
		workers = append(workers, &worker{
			number: i,
			crew:   crew,
			own:    own,
			sums:   make([]int, len(own)),
			from:   ring[i],
			to:     ring[(i+1)%crew],
		})
	}
	return workers
}

// work goes round twice. First each piece goes from worker to worker, and each
// adds its own numbers, till the sum is whole at the worker that has the piece's
// number; then the whole sums go round. Who has sent a list does not write into
// it any more: it is the next one's, and, once it is whole, nobody's.
func (w *worker) work() {
	piece := w.ahead(w.number)
	sum := slices.Clone(w.pieceOf(w.own, piece))
	for range w.crew - 1 {
		sum = w.handOn(sum)
		piece = w.ahead(piece)
		addTo(sum, w.pieceOf(w.own, piece))
	}
	copy(w.pieceOf(w.sums, piece), sum)
	for range w.crew - 1 {
		sum = w.handOn(sum)
		piece = w.ahead(piece)
		copy(w.pieceOf(w.sums, piece), sum)
	}
}

// handOn gives the next worker a list, and takes that of the one ahead.
func (w *worker) handOn(sum []int) []int {
	w.to <- sum
	return <-w.from
}

// ahead is the number ahead of another one, round.
func (w *worker) ahead(number int) int { return (number + w.crew - 1) % w.crew }

// pieceOf cuts a list. It does not ask batch's Sizes, which refuses empty pieces.
func (w *worker) pieceOf(list []int, piece int) []int {
	return list[w.start(piece):w.start(piece+1)]
}

// start is where a piece begins: as many pieces ahead of it are greater by one
// as numbers are left of even ones.
func (w *worker) start(piece int) int {
	even, left := len(w.own)/w.crew, len(w.own)%w.crew
	return piece*even + min(piece, left)
}
