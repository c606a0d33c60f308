// Package bits is layer 1, what a float is made of: see shared/doc/01-bits.md.
package bits

import (
	"math"
	mathbits "math/bits"

	"levelling/api"
)

// The kinds of floats.
const (
	Zero = iota
	Finite
	Inf
	NaN
)

const (
	mantLen  = 53
	fracLen  = mantLen - 1
	fracMask = 1<<fracLen - 1
	fieldMax = 1<<11 - 1
	leastExp = -1074
	bias     = 1023
	mostTop  = 1023
	leastTop = -1022 // of floats that have a leading 1 of their own
	noTop    = -2000
	// No float times two to a power beyond this is a float again.
	mostScale = mostTop - leastExp
)

// Split tells a float's sign, whole number, exponent and kind.
func Split(x float64) (bool, uint64, int, int) {
	neg, field, frac := fields(x)
	kind := kindOf(field, frac)
	mant, exp, signed := uint64(0), 0, false
	switch kind {
	case Finite:
		mant, exp = number(field, frac)
		fallthrough // what has a number has a sign, as zeros and infinities have
	case Zero, Inf:
		signed = neg
	}
	return signed, mant, exp, kind
}

// fields cuts a float's bits into the three parts that IEEE 754 lays them in.
func fields(x float64) (bool, int, uint64) {
	b := math.Float64bits(x)
	return b>>63 != 0, int(b >> fracLen & fieldMax), b & fracMask
}

func kindOf(field int, frac uint64) int {
	switch field {
	case fieldMax:
		if frac != 0 {
			return NaN
		}
		return Inf
	case 0:
		if frac == 0 {
			return Zero
		}
		fallthrough // below 2^-1022, but a number as any other
	default:
		return Finite
	}
}

// number is the whole number and the exponent of a Finite float.
func number(field int, frac uint64) (uint64, int) {
	if field == 0 {
		return frac, leastExp
	}
	return frac | 1<<fracLen, field - 1 + leastExp
}

// Make is the float that is mant times 2 to the power of exp, if there is one.
func Make(neg bool, mant uint64, exp int) (float64, bool) {
	if mant == 0 {
		return join(neg, 0, 0), true
	}
	// Asked ahead of counting: the exponent may be any int.
	if exp < leastExp-63 || exp > mostTop {
		return 0, false
	}
	zeros := mathbits.TrailingZeros64(mant)
	mant >>= zeros
	exp += zeros
	size := mathbits.Len64(mant)
	top := exp + size - 1
	if size > mantLen || exp < leastExp || top > mostTop {
		return 0, false
	}
	if top < leastTop {
		return join(neg, 0, mant<<(exp-leastExp)), true
	}
	return join(neg, top+bias, mant<<(mantLen-size)&fracMask), true
}

// join is what fields cuts, put together again.
func join(neg bool, field int, frac uint64) float64 {
	b := uint64(field)<<fracLen | frac
	if neg {
		b |= 1 << 63
	}
	return math.Float64frombits(b)
}

// Pow is 2 to the power of k, or 0 if that is no float.
func Pow(k int) float64 {
	x, _ := Make(false, 1, k)
	return x
}

// Scale is x times 2 to the power of k, if that is a float.
func Scale(x float64, k int) (float64, bool) {
	neg, mant, exp, kind := Split(x)
	switch {
	case kind == Zero:
		return x, true
	case kind != Finite, k < -mostScale, k > mostScale:
		return 0, false
	}
	return Make(neg, mant, exp+k)
}

// Top is the exponent of the greatest power of two that is not above x without its sign.
func Top(x float64) int {
	_, mant, exp, kind := Split(x)
	if kind != Finite {
		return noTop
	}
	return exp + mathbits.Len64(mant) - 1
}

// In tells whether x is 0, or of a size that rows may have.
func In(x float64) bool {
	size := math.Abs(x)
	return size == 0 || size >= Pow(api.LowExp) && size <= Pow(api.HighExp)
}

// Same tells whether two floats have the same bits, with all NaN taken as one.
func Same(a float64, b float64) bool {
	if a != a || b != b {
		return a != a && b != b
	}
	return math.Float64bits(a) == math.Float64bits(b)
}
