package keep

import (
	"fmt"
	"math/rand"
	"slices"
	"testing"

	"galley/api"
	"galley/crew"
	"galley/plan"
	"galley/train"
)

func mustSaved(t *testing.T, name string, s train.State) []byte {
	t.Helper()
	b, err := Save(s)
	if err != nil {
		t.Fatalf("%s: Save(%v): %v", name, s, err)
	}
	return b
}

// kept is a state that was saved and loaded.
func kept(t *testing.T, name string, s train.State) train.State {
	t.Helper()
	u, err := Load(mustSaved(t, name, s))
	if err != nil || !sameState(u, s) {
		t.Fatalf("%s: what was kept is %v, %v, want %v", name, u, err, s)
	}
	return u
}

// TestS3ThereAndBack: what is saved is loaded, and saved once more has the same bytes.
func TestS3ThereAndBack(t *testing.T) {
	r := rand.New(rand.NewSource(5))
	for i := range 400 {
		s := someState(r, i%13, r.Intn(4), 1+r.Intn(api.MaxSide))
		name := fmt.Sprint("state ", i)
		b := mustSaved(t, name, s)
		mustSave(t, name, kept(t, name, s), b)
	}
	for i, s := range right() {
		name := fmt.Sprint("right ", i)
		mustSave(t, name, kept(t, name, s), slowSave(s))
	}
}

// TestS3BackAndThere: no two lists of bytes are those of one state.
func TestS3BackAndThere(t *testing.T) {
	r := rand.New(rand.NewSource(6))
	found := 0
	for range 100000 {
		b := summed(bytesOf(71, 1, r.Intn(130), 1, 3, 1, 1), slowNumber(uint64(r.Intn(300))), bytesOf(0, 0, 1, 1), slowNumber(uint64(r.Intn(300))), bytesOf(0, r.Intn(2)))
		s, err := Load(b)
		if err != nil {
			continue
		}
		found++
		mustSave(t, "what was loaded", s, b)
	}
	if found < 1000 {
		t.Errorf("there were only %d states", found)
	}
}

// TestS3FewerOrMore: of what was saved no beginning is loaded, nor with more behind it.
func TestS3FewerOrMore(t *testing.T) {
	for i, s := range right() {
		name := fmt.Sprint("state ", i)
		b := mustSaved(t, name, s)
		for long := 0; long < len(b); long += 1 + long/100 {
			refuseLoad(t, name, b[:long])
		}
		refuseLoad(t, name, b[:len(b)-1])
		for _, behind := range [][]byte{{0}, {255}, b, b[:1], mustSaved(t, name, small())} {
			refuseLoad(t, name, slices.Concat(b, behind))
		}
	}
}

// someBatches fit the net of a state that takes so many columns.
func someBatches(r *rand.Rand, s train.State, cols, count int) []api.Batch {
	out := cols
	for _, l := range s.Net {
		if l.Kind == api.Linear {
			out = l.W.Cols
		}
	}
	var l []api.Batch
	for range count {
		rows := 2 + r.Intn(11)
		l = append(l, api.Batch{In: some(r, rows, cols), Want: some(r, rows, out)})
	}
	return l
}

// TestS3GoesOn: what is kept between any two batches learns the rest as if it had not been.
func TestS3GoesOn(t *testing.T) {
	r := rand.New(rand.NewSource(7))
	for layers := range api.MaxLayers + 1 {
		for first := range 4 {
			cols := 1 + r.Intn(api.MaxSide)
			s := someState(r, layers, first, cols)
			s.Steps %= 1000000
			l := someBatches(r, s, cols, 5)
			rates := api.Rates{Learn: r.Intn(257), Keep: r.Intn(257)}
			want, wantOffs := mustAll(t, s, l, rates)
			for cut := range len(l) + 1 {
				name := fmt.Sprintf("%d layers from Kind %d, kept behind batch %d", layers, first, cut)
				half, offs := mustAll(t, s, l[:cut], rates)
				rest, more := mustAll(t, kept(t, name, half), l[cut:], rates)
				if !sameState(rest, want) || !slices.Equal(append(offs, more...), wantOffs) {
					t.Errorf("%s: %v, %v, %v; want %v, %v", name, rest, offs, more, want, wantOffs)
				}
			}
			each := s
			for _, b := range l {
				each, _ = mustAll(t, kept(t, "each", each), []api.Batch{b}, rates)
			}
			if !sameState(each, want) {
				t.Errorf("kept ahead of each batch: %v, want %v", each, want)
			}
		}
	}
}

func mustAll(t *testing.T, s train.State, l []api.Batch, r api.Rates) (train.State, []int) {
	t.Helper()
	u, offs, err := train.All(s, l, 2, r)
	if err != nil {
		t.Fatalf("All(%v, %v, %v): %v", s, l, r, err)
	}
	return u, offs
}

// TestS3StagesGoOn: and so do stages that work at once.
func TestS3StagesGoOn(t *testing.T) {
	r := rand.New(rand.NewSource(8))
	p, err := plan.Turns(2, 2)
	if err != nil {
		t.Fatal(err)
	}
	for layers := 2; layers <= api.MaxLayers; layers++ {
		s := someState(r, layers, layers, 3)
		s.Steps %= 1000000
		l, rates := someBatches(r, s, 3, 4), api.Rates{Learn: 100, Keep: 200}
		want, _ := mustAll(t, s, l, rates)
		for _, b := range l {
			s, _, err = crew.One(kept(t, "stages", s), b, []int{1, layers}, p, 2, rates)
			if err != nil {
				t.Fatal(err)
			}
		}
		if !sameState(s, want) {
			t.Errorf("%d layers: %v, want %v", layers, s, want)
		}
	}
}

// TestS3LastSteps: a state of as many Steps as may be is kept; what is learned of it is not.
func TestS3LastSteps(t *testing.T) {
	s := train.Begin(netOf(scaleOf(256)))
	s.Steps = 999999999
	b := api.Batch{In: of(1, 1, 256), Want: of(1, 1, 512)}
	for steps := 1000000000; steps <= 1000000001; steps++ {
		next, _, err := train.One(kept(t, "before", s), b, 1, api.Rates{Learn: 128})
		if err != nil || next.Steps != steps {
			t.Fatalf("%v, %v", next, err)
		}
		s = next
	}
	refuseSave(t, "beyond", s, api.ErrRange)
	refuseLoad(t, "beyond", slowSave(s))
}
