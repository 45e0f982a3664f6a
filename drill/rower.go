package drill

import (
	"errors"
	"slices"
	"strconv"

	"galley/api"
	"galley/keep"
	"galley/train"
)

// fall is the error of a try that fails. Nobody outside is told of it, for who
// falls goes on.
type fall struct {
	// lost is how many batches were learned since what was learned was kept.
	lost int
}

func (f fall) Error() string { return "a fall, and " + strconv.Itoa(f.lost) + " lost" }

// rower learns batch by batch, and keeps what was learned as bytes, so that
// nothing that is done to a state behind that can be done to what is kept.
type rower struct {
	one     func(s train.State, b api.Batch) (train.State, int, error)
	every   int
	falls   []int
	kept    []byte
	state   train.State
	learned int
	tries   int
}

// row goes on till all batches are learned. It ends, for there are no more falls
// than were told, and each try that does not fail is one batch more.
func (w *rower) row(s train.State, l []api.Batch) error {
	if err := w.begin(s); err != nil {
		return err
	}
	for w.learned < len(l) {
		err := w.try(l[w.learned])
		var f fall
		if errors.As(err, &f) {
			err = w.goOn(f)
		}
		if err != nil {
			return err
		}
	}
	return nil
}

// begin goes on from what it kept, as behind a fall: so what is told of no
// batches, too, is fresh memory.
func (w *rower) begin(s train.State) error {
	if err := w.keep(s); err != nil {
		return err
	}
	return w.goOn(fall{})
}

// try learns a batch, unless it fails: then it does not as much as look at it.
func (w *rower) try(b api.Batch) error {
	w.tries++
	if slices.Contains(w.falls, w.tries) {
		return fall{lost: w.learned % w.every}
	}
	next, _, err := w.one(w.state, b)
	if err != nil {
		return err
	}
	w.state = next
	w.learned++
	if w.learned%w.every == 0 {
		return w.keep(next)
	}
	return nil
}

func (w *rower) keep(s train.State) error {
	b, err := keep.Save(s)
	if err != nil {
		return err
	}
	w.kept = b
	return nil
}

// goOn has what was kept last, and all batches that were lost still to learn.
func (w *rower) goOn(f fall) error {
	s, err := keep.Load(w.kept)
	if err != nil {
		return err
	}
	w.state = s
	w.learned -= f.lost
	return nil
}
