package run

import (
	"slices"
	"strconv"

	"galley/api"
	"galley/batch"
	"galley/clock"
	"galley/cut"
	"galley/fix"
	"galley/peak"
	"galley/rings"
	"galley/train"
)

// row tells by the first word of a line how all others are read.
func row(word string) func(w *words) task {
	switch word {
	case "add":
		return ofTwo(fix.Add)
	case "mul":
		return ofTwo(fix.Mul)
	case "sizes":
		return sizes
	case "cut":
		return best
	case "plan":
		return acts
	case "long":
		return long
	case "peaks":
		return peaks
	case "sum":
		return sum
	case "learn":
		return learn
	}
	panic(api.ErrSyntax)
}

func ofTwo(both func(a, b int) int) func(w *words) task {
	return func(w *words) task {
		a, b := next(w, value), last(w, value)
		return func() (string, error) { return fix.Text(both(a, b)), nil }
	}
}

func sizes(w *words) task {
	count, parts := next(w, number), last(w, number)
	return func() (string, error) {
		l, err := batch.Sizes(count, parts)
		if err != nil {
			return "", err
		}
		return numbersText(l), nil
	}
}

func best(w *words) task {
	costs, stages := next(w, numbers), last(w, number)
	return func() (string, error) {
		ends, dearest, err := cut.Best(costs, stages)
		if err != nil {
			return "", err
		}
		return numbersText(ends) + " " + strconv.Itoa(dearest), nil
	}
}

func acts(w *words) task {
	build, stages, parts := next(w, kind), next(w, number), last(w, number)
	return func() (string, error) {
		l, err := build(stages, parts)
		if err != nil {
			return "", err
		}
		return planText(l), nil
	}
}

func long(w *words) task {
	build, stages, parts := next(w, kind), next(w, number), next(w, number)
	there, back := next(w, number), last(w, number)
	return func() (string, error) {
		l, err := build(stages, parts)
		if err != nil {
			return "", err
		}
		spans, err := clock.Times(l, parts, slices.Repeat([]int{there}, stages), slices.Repeat([]int{back}, stages))
		if err != nil {
			return "", err
		}
		return strconv.Itoa(clock.Long(spans)) + " " + numbersText(clock.Idle(spans)), nil
	}
}

func peaks(w *words) task {
	build, stages, parts := next(w, kind), next(w, number), last(w, number)
	return func() (string, error) {
		l, err := build(stages, parts)
		if err != nil {
			return "", err
		}
		most, err := peak.Peaks(l, parts)
		if err != nil {
			return "", err
		}
		return numbersText(most), nil
	}
}

func sum(w *words) task {
	parts := last(w, rows)
	return func() (string, error) {
		l, err := rings.Sum(parts)
		if err != nil {
			return "", err
		}
		return valuesText(l[0]), nil
	}
}

func learn(w *words) task {
	in, want, steps := next(w, value), next(w, value), last(w, number)
	return func() (string, error) {
		// train's All says so, too, but of as many batches as there are steps.
		if steps > api.MaxEpochs {
			return "", api.ErrFull
		}
		s := train.Begin([]api.Layer{{Kind: api.Scale, W: single(api.One)}})
		l := slices.Repeat([]api.Batch{{In: single(in), Want: single(want)}}, steps)
		s, _, err := train.All(s, l, 1, api.Rates{Learn: api.One / 2})
		if err != nil {
			return "", err
		}
		return fix.Text(s.Net[0].W.Cells[0]), nil
	}
}

func single(x int) api.Matrix { return api.Matrix{Rows: 1, Cols: 1, Cells: []int{x}} }
