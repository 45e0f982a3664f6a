// Package fix has numbers that end somewhere.
package fix

import (
	"strconv"
	"strings"

	"galley/api"
)

// No Text is longer, for One is 2 to the 8th: 7 digits before the point and 8 behind it.
const (
	maxWhole  = 7
	maxBehind = 8
)

// Clamp lets a number be none beyond the ends.
func Clamp(x int) int { return max(-api.Top, min(x, api.Top)) }

// Add two.
func Add(a, b int) int { return Clamp(Clamp(a) + Clamp(b)) }

// Sub one of another.
func Sub(a, b int) int { return Clamp(Clamp(a) - Clamp(b)) }

// Mul two: what is behind the point is rounded down.
func Mul(a, b int) int { return Clamp(divideDown(Clamp(a)*Clamp(b), api.One)) }

// divideDown is needed because Go's own division rounds towards 0; by is above 0.
func divideDown(x, by int) int {
	if x%by < 0 {
		return x/by - 1
	}
	return x / by
}

// Text of a number.
func Text(x int) string {
	x = Clamp(x)
	sign := ""
	if x < 0 {
		sign = "-"
		x = -x
	}
	return sign + strconv.Itoa(x/api.One) + behindPoint(x%api.One)
}

// behindPoint tells rest / One with its point. It ends at the last digit that
// is not 0, because each digit takes one factor 2 of One away.
func behindPoint(rest int) string {
	if rest == 0 {
		return ""
	}
	digits := []byte{'.'}
	for rest > 0 {
		rest *= 10
		digits = append(digits, byte('0'+rest/api.One))
		rest %= api.One
	}
	return string(digits)
}

// Parse reads one. It reads loosely and then asks Text, so that there is one
// place alone that says what a number looks like.
func Parse(text string) (int, error) {
	rest, below := strings.CutPrefix(text, "-")
	whole, behind, _ := strings.Cut(rest, ".")
	w, wholeOK := digitsOf(whole, maxWhole)
	b, behindOK := digitsOf(behind, maxBehind)
	if !wholeOK || !behindOK {
		return 0, api.ErrSyntax
	}
	x := w*api.One + b*api.One/powerOfTen(len(behind))
	if below {
		x = -x
	}
	if Text(x) != text {
		return 0, api.ErrSyntax
	}
	return x, nil
}

// digitsOf takes at most so many digits that nothing can wrap round later on.
func digitsOf(text string, most int) (int, bool) {
	if len(text) > most {
		return 0, false
	}
	n := 0
	for i := 0; i < len(text); i++ {
		if text[i] < '0' || text[i] > '9' {
			return 0, false
		}
		n = n*10 + int(text[i]-'0')
	}
	return n, true
}

func powerOfTen(n int) int {
	p := 1
	for range n {
		p *= 10
	}
	return p
}
