package script

import (
	mathbits "math/bits"
	"strconv"
	"strings"

	"levelling/bits"
)

const (
	mantDigits   = 16
	numberDigits = 4
)

// Float is the float whose word s is, if it is one's.
func Float(s string) (float64, bool) {
	digits, power, has := strings.Cut(s, "p")
	neg, mant, is := signed(digits, mantDigits)
	if !is {
		return 0, false
	}
	exp := 0
	if has {
		exp, is = exponent(power)
		if !is {
			return 0, false
		}
	}
	return bits.Make(neg, mant, exp)
}

// exponent is what stands behind a float's p, if it may.
func exponent(s string) (int, bool) {
	neg, n, is := signed(s, numberDigits)
	switch {
	case !is, neg && n == 0:
		return 0, false
	case neg:
		return -int(n), true
	}
	return int(n), true
}

// signed tells whether there is a sign, and the number of up to so many digits that stands behind it, if s is such a word.
func signed(s string, most int) (bool, uint64, bool) {
	neg, n, is := false, uint64(0), false
	switch {
	case strings.HasPrefix(s, "-"):
		neg, s = true, s[1:]
		fallthrough // behind a sign there stands what stands where there is none
	default:
		n, is = unsigned(s, most)
	}
	return neg, n, is
}

// unsigned is the number of up to so many digits, 19 at most, that s is, if it is one.
func unsigned(s string, most int) (uint64, bool) {
	if len(s) == 0 || len(s) > most || s[0] == '0' && len(s) > 1 {
		return 0, false
	}
	n := uint64(0)
	for i := range len(s) {
		if s[i] < '0' || s[i] > '9' {
			return 0, false
		}
		n = 10*n + uint64(s[i]-'0')
	}
	return n, true
}

// Write is x's word, of the least digits; empty, if it has none.
func Write(x float64) string {
	neg, mant, exp, kind := bits.Split(x)
	if kind == bits.Inf || kind == bits.NaN {
		return ""
	}
	if kind == bits.Finite {
		zeros := mathbits.TrailingZeros64(mant)
		mant >>= zeros
		exp += zeros
	}
	word := strconv.FormatUint(mant, 10)
	if neg {
		word = "-" + word
	}
	if exp != 0 {
		word += "p" + strconv.Itoa(exp)
	}
	return word
}
