package drill

import (
	"fmt"
	"slices"
	"strings"
	"testing"

	"galley/api"
	"galley/plain"
	"galley/train"
)

// watched learns by a One that writes down which batch was asked at which try.
// The batches are numbered by their rows, the states by their Steps.
type watched struct {
	rower
	asks []string
}

// watch refuses the batch of a number, and no other.
func watch(t *testing.T, s story, wrong int) *watched {
	w := &watched{rower: rower{every: s.every, falls: s.falls}}
	w.one = func(s train.State, b api.Batch) (train.State, int, error) {
		if s.Steps != b.In.Rows {
			t.Errorf("batch %d was asked of what was learned of %d", b.In.Rows, s.Steps)
		}
		for len(w.asks) < w.tries-1 {
			w.asks = append(w.asks, "-")
		}
		if len(w.asks) >= w.tries {
			t.Errorf("try %d asked twice", w.tries)
		}
		w.asks = append(w.asks, fmt.Sprint(b.In.Rows))
		if b.In.Rows == wrong {
			return train.State{}, 0, api.ErrNone
		}
		s.Steps++
		return s, 0, nil
	}
	return w
}

func numbered(count int) []api.Batch {
	var l []api.Batch
	for i := range count {
		l = append(l, batchOf(of(i, 0), of(i, 0)))
	}
	return l
}

// TestD1TryByTry: each try that does not fail asks the batch whose turn it is,
// of what was learned of those ahead; one that fails asks none.
func TestD1TryByTry(t *testing.T) {
	for _, s := range stories() {
		w := watch(t, s, -1)
		if err := w.row(train.State{}, numbered(s.count)); err != nil {
			t.Errorf("%s: %v", s.name(), err)
		}
		if !slices.Equal(w.asks, s.words()) || w.tries != len(s.words()) || w.state.Steps != s.count {
			t.Errorf("%s: %d tries, %v, and %d Steps; want %v", s.name(), w.tries, w.asks, w.state.Steps, s.words())
		}
	}
}

// TestD2AskedFirst: a batch that is refused is refused when it is asked for the
// first time, and nothing is asked behind it; a try that fails asks nothing.
func TestD2AskedFirst(t *testing.T) {
	for _, s := range stories() {
		for wrong := range s.count {
			w := watch(t, s, wrong)
			err := w.row(train.State{}, numbered(s.count))
			want := s.words()[:slices.Index(s.words(), fmt.Sprint(wrong))+1]
			if plain.Told(err) != api.ErrNone || !slices.Equal(w.asks, want) || w.tries != len(want) {
				t.Errorf("%s, batch %d is wrong: %d tries, %v, %v; want %v", s.name(), wrong, w.tries, w.asks, err, want)
			}
		}
	}
	for _, c := range []struct {
		story
		wrong int
	}{
		{story{3, 2, fallsOf(1, 2), "- - 0"}, 0},
		{story{3, 2, fallsOf(2), "0 - 0 1"}, 1},
		{story{3, 3, fallsOf(3), "0 1 - 0 1 2"}, 2},
		{story{3, 2, fallsOf(4), "0 1 2"}, 2},
	} {
		w := watch(t, c.story, c.wrong)
		if err := w.row(train.State{}, numbered(c.count)); plain.Told(err) != api.ErrNone || !slices.Equal(w.asks, c.words()) {
			t.Errorf("%s, batch %d is wrong: %v, %v; want %v", c.name(), c.wrong, w.asks, err, c.words())
		}
	}
}

// TestD1KeptIsApart: whoever writes into the state that was handed on does not
// write into what is kept, nor into what was handed in.
func TestD1KeptIsApart(t *testing.T) {
	for _, s := range stories() {
		begin := train.Begin([]api.Layer{scaleOf(0), shiftOf(0, 0)})
		w := rower{every: s.every, falls: s.falls}
		w.one = func(s train.State, b api.Batch) (train.State, int, error) {
			s.Net[0].W.Cells[0]++
			s.Net[1].B.Cells[1]--
			s.Speed[0].W.Cells[0] += 2
			s.Speed[1].B.Cells[0] -= 2
			s.Steps++
			return s, 0, nil
		}
		if err := w.row(begin, numbered(s.count)); err != nil {
			t.Errorf("%s: %v", s.name(), err)
		}
		n := s.count
		want := train.State{
			Net:   []api.Layer{scaleOf(n), shiftOf(0, -n)},
			Speed: []api.Grad{{W: of(1, 1, 2*n)}, {B: of(1, 2, -2*n, 0)}},
			Steps: n,
		}
		if got := answer(w.state, 0, nil); got != answer(want, 0, nil) {
			t.Errorf("%s:\n%s\nwant\n%s", s.name(), got, answer(want, 0, nil))
		}
		if got, want := answer(begin, 0, nil), answer(train.Begin(begin.Net), 0, nil); got != want || begin.Net[0].W.Cells[0] != 0 {
			t.Errorf("%s: what was handed in is\n%s", s.name(), got)
		}
	}
}

// wrapped is an error with something around it.
type wrapped struct{ error }

func (w wrapped) Unwrap() error { return w.error }

// TestD1AFallIsFound: also with something around it; any other error ends it.
func TestD1AFallIsFound(t *testing.T) {
	count := 0
	w := rower{every: 3}
	w.one = func(s train.State, b api.Batch) (train.State, int, error) {
		count++
		if count == 3 {
			return train.State{}, 0, wrapped{fall{lost: 2}}
		}
		s.Steps++
		return s, 0, nil
	}
	if err := w.row(train.State{}, numbered(3)); err != nil || w.tries != 6 || w.state.Steps != 3 {
		t.Errorf("a fall: %v, %d tries, %d Steps", err, w.tries, w.state.Steps)
	}
	w = rower{every: 3, one: func(s train.State, b api.Batch) (train.State, int, error) {
		return train.State{}, 0, wrapped{api.ErrStuck}
	}}
	if err := w.row(train.State{}, numbered(3)); plain.Told(err) != api.ErrStuck || w.tries != 1 {
		t.Errorf("no fall: %v, %d tries", err, w.tries)
	}
	if text := (fall{lost: 2}).Error(); !strings.Contains(text, "2") {
		t.Errorf("a fall is told as %q", text)
	}
}
