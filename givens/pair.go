package givens

import (
	"math"

	"levelling/bits"
)

// pair is two floats that are asked or counted together. Compared by ==, a zero is one with any sign, and NaN is like nothing: so a pair of zeros, and no other, is pair{}.
type pair struct {
	first  float64
	second float64
}

// numbers tells whether none of both is an infinity or NaN.
func (p pair) numbers() bool {
	return isNumber(p.first) && isNumber(p.second)
}

// times is each of both, times k.
func (p pair) times(k float64) pair {
	return pair{float64(p.first * k), float64(p.second * k)}
}

// length is the root of the sum of both squares.
func (p pair) length() float64 {
	return math.Sqrt(float64(p.first*p.first) + float64(p.second*p.second))
}

func isNumber(x float64) bool {
	_, _, _, kind := bits.Split(x)
	return kind == bits.Zero || kind == bits.Finite
}
