package run

import (
	"strconv"
	"strings"

	"galley/api"
	"galley/fix"
	"galley/plan"
)

// maxDigits is how many digits a number may have.
const maxDigits = 9

// none is how an empty list of numbers is written, read or told.
const none = "-"

// words of a line that are not read yet.
type words struct{ left []string }

// next reads a word as one does.
func next[T any](w *words, one func(word string) T) T {
	if len(w.left) == 0 {
		panic(api.ErrSyntax)
	}
	word := w.left[0]
	w.left = w.left[1:]
	return one(word)
}

// last reads a word behind which there is no more.
func last[T any](w *words, one func(word string) T) T {
	if len(w.left) != 1 {
		panic(api.ErrSyntax)
	}
	return next(w, one)
}

// each reads all pieces of a word as one does.
func each[T any](word, between string, one func(piece string) T) []T {
	var l []T
	for piece := range strings.SplitSeq(word, between) {
		l = append(l, one(piece))
	}
	return l
}

// number reads loosely, and then asks how what it read is written.
func number(word string) int {
	n, err := strconv.Atoi(word)
	if err != nil || n < 0 || len(word) > maxDigits || strconv.Itoa(n) != word {
		panic(api.ErrSyntax)
	}
	return n
}

func numbers(word string) []int {
	if word == none {
		return nil
	}
	return each(word, ",", number)
}

func value(word string) int {
	x, err := fix.Parse(word)
	if err != nil {
		panic(err)
	}
	return x
}

// values has no word for an empty list: the chapter has it of numbers alone.
func values(word string) []int { return each(word, ",", value) }

func rows(word string) [][]int { return each(word, "/", values) }

// maker makes a plan of so many stages, for so many parts.
type maker func(stages, parts int) ([][]api.Act, error)

func kind(word string) maker {
	switch word {
	case "wave":
		return plan.Wave
	case "turns":
		return plan.Turns
	}
	panic(api.ErrSyntax)
}
