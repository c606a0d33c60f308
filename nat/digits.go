package nat

import (
	"math/bits"
	"slices"

	"levelling/api"
)

const digitLen = 32

// digits is a number on its way: the lowest digit first, zeros at its end or not.
type digits []uint32

// size tells how many digits n has, but for the zeros at its end.
func size(n api.Nat) (count int) {
	for i, x := range slices.Backward(n) {
		if x != 0 {
			return i + 1
		}
	}
	return 0
}

// trim shares memory with n: what it gives is for reading only.
func trim(n api.Nat) (number api.Nat) {
	return n[:size(n)]
}

// lay puts one more digit on top, and answers what does not fit into it.
func (d *digits) lay(x uint64) (carry uint64) {
	*d = append(*d, uint32(x))
	return x >> digitLen
}

// number gives away what was laid, as a number's digits.
func (d *digits) number() (n api.Nat) {
	if n = trim(api.Nat(*d)); len(n) == 0 {
		return nil
	}
	return n
}

// addTimes adds x times n to the digits from at on; the digit on top of those must be untouched yet.
func (d *digits) addTimes(at int, x uint32, n api.Nat) {
	part := (*d)[at : at+len(n)+1]
	carry := uint64(0)
	for i, y := range n {
		carry += uint64(x)*uint64(y) + uint64(part[i])
		part[i] = uint32(carry)
		carry >>= digitLen
	}
	part[len(n)] = uint32(carry)
}

// takeOut takes n out of the digits from at on as often as it goes, and answers how often that is. The highest bit of n must be set, and n must not go there 2^32 times.
func (d *digits) takeOut(at int, n api.Nat) (times uint32) {
	part := (*d)[at : at+len(n)+1]
	times = guess(part, n)
	if part.subTimes(times, n) {
		part.addBack(n)
		times--
	}
	return times
}

// guess tells how often n goes into part, by their highest digits: rightly, or once too often.
func guess(part digits, n api.Nat) (times uint32) {
	k := len(n)
	first, second := uint64(n[k-1]), uint64(n[k-2])
	high, low := uint64(part[k])<<digitLen|uint64(part[k-1]), uint64(part[k-2])
	q, r := high/first, high%first
	for r < 1<<digitLen && (q >= 1<<digitLen || q*second > r<<digitLen|low) {
		q--
		r += first
	}
	return uint32(q)
}

// subTimes takes n away x times, and tells whether that was too often, so that it went around.
func (d *digits) subTimes(x uint32, n api.Nat) (below bool) {
	carry, borrow := uint64(0), uint32(0)
	for i, y := range n {
		carry += uint64(x) * uint64(y)
		(*d)[i], borrow = bits.Sub32((*d)[i], uint32(carry), borrow)
		carry >>= digitLen
	}
	top := len(n)
	(*d)[top], borrow = bits.Sub32((*d)[top], uint32(carry), borrow)
	return borrow != 0
}

// addBack undoes one taking away too many, so the last carry only undoes the going around.
func (d *digits) addBack(n api.Nat) {
	carry := uint32(0)
	for i, y := range n {
		(*d)[i], carry = bits.Add32((*d)[i], y, carry)
	}
	(*d)[len(n)] += carry
}
