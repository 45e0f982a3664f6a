package run

import (
	"strconv"
	"strings"

	"galley/api"
	"galley/fix"
)

func numbersText(l []int) string { return listText(l, strconv.Itoa) }

func valuesText(l []int) string { return listText(l, fix.Text) }

func listText(l []int, text func(x int) string) string {
	if len(l) == 0 {
		return none
	}
	return joined(l, ",", text)
}

func planText(stages [][]api.Act) string { return joined(stages, "/", stageText) }

func stageText(acts []api.Act) string { return joined(acts, ",", actText) }

func actText(a api.Act) string { return string(letter(a)) + strconv.Itoa(a.Micro) }

func letter(a api.Act) rune {
	if a.Kind == api.Forward {
		return 'F'
	}
	return 'B'
}

func joined[T any](l []T, between string, text func(one T) string) string {
	texts := make([]string, 0, len(l))
	for _, one := range l {
		texts = append(texts, text(one))
	}
	return strings.Join(texts, between)
}
