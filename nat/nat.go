// Package nat is layer 2, natural numbers of any size: see shared/doc/02-nat.md.
package nat

import (
	"cmp"
	"math/bits"
	"slices"

	"levelling/api"
)

const maxShift = 100000

// Check tells whether n has no zero at its end.
func Check(n api.Nat) (is bool) {
	return size(n) == len(n)
}

// From is x as digits.
func From(x uint64) (n api.Nat) {
	d := make(digits, 0, 2)
	d.lay(d.lay(x))
	return d.number()
}

// Low is n, if it is below 2^64.
func Low(n api.Nat) (x uint64, is bool) {
	n = trim(n)
	if len(n) > 2 {
		return 0, false
	}
	for _, d := range slices.Backward(n) {
		x = x<<digitLen | uint64(d)
	}
	return x, true
}

// Len is the least k of which n is below 2 to the power of k.
func Len(n api.Nat) (k int) {
	count := size(n)
	if count == 0 {
		return 0
	}
	return (count-1)*digitLen + bits.Len32(n[count-1])
}

// Cmp is -1, 0 or 1, as a is below b, the same, or above.
func Cmp(a api.Nat, b api.Nat) (order int) {
	a, b = trim(a), trim(b)
	if len(a) != len(b) {
		return cmp.Compare(len(a), len(b))
	}
	for i, x := range slices.Backward(a) {
		if x != b[i] {
			return cmp.Compare(x, b[i])
		}
	}
	return 0
}

// Add is a and b, together.
func Add(a api.Nat, b api.Nat) (sum api.Nat) {
	long, short := trim(a), trim(b)
	if len(long) < len(short) {
		long, short = short, long
	}
	d := make(digits, 0, len(long)+1)
	carry := uint64(0)
	for i, x := range long {
		carry += uint64(x)
		if i < len(short) {
			carry += uint64(short[i])
		}
		carry = d.lay(carry)
	}
	d.lay(carry)
	return d.number()
}

// Sub is a less b, if a is not below b.
func Sub(a api.Nat, b api.Nat) (less api.Nat, is bool) {
	if Cmp(a, b) < 0 {
		return nil, false
	}
	a, b = trim(a), trim(b)
	d := make(digits, 0, len(a))
	borrow := uint32(0)
	for i, x := range a {
		y := uint32(0)
		if i < len(b) {
			y = b[i]
		}
		x, borrow = bits.Sub32(x, y, borrow)
		d.lay(uint64(x))
	}
	return d.number(), true
}

// Mul is a times b.
func Mul(a api.Nat, b api.Nat) (product api.Nat) {
	a, b = trim(a), trim(b)
	d := make(digits, len(a)+len(b))
	for i, x := range a {
		d.addTimes(i, x, b)
	}
	return d.number()
}

// Shl is n times 2 to the power of k, if k is 0 to 100000.
func Shl(n api.Nat, k int) (shifted api.Nat) {
	if k < 0 || k > maxShift {
		return nil
	}
	return up(n, k)
}

// up is Shl without its bound: a root of many digits begins above it.
func up(n api.Nat, k int) (shifted api.Nat) {
	n = trim(n)
	if len(n) == 0 {
		return nil
	}
	whole, part := k/digitLen, k%digitLen
	d := make(digits, whole, whole+len(n)+1)
	carry := uint64(0)
	for _, x := range n {
		carry = d.lay(uint64(x)<<part | carry)
	}
	d.lay(carry)
	return d.number()
}

// Shr is n divided by 2 to the power of k, and whether nothing is lost, if k is 0 to 100000.
func Shr(n api.Nat, k int) (shifted api.Nat, exact bool) {
	if k < 0 || k > maxShift {
		return nil, false
	}
	n = trim(n)
	whole, part := k/digitLen, k%digitLen
	if whole >= len(n) {
		return nil, len(n) == 0
	}
	d := make(digits, len(n)-whole)
	pair := uint64(0)
	for i, x := range slices.Backward(n[whole:]) {
		pair = pair<<digitLen | uint64(x)
		d[i] = uint32(pair >> part)
	}
	exact = pair&(1<<part-1) == 0 && size(n[:whole]) == 0
	return d.number(), exact
}

// Div is a divided by b, and what is left over, if b is not 0.
func Div(a api.Nat, b api.Nat) (quo api.Nat, rest api.Nat, is bool) {
	a, b = trim(a), trim(b)
	switch {
	case len(b) == 0:
		return nil, nil, false
	case len(a) < len(b):
		rest = up(a, 0) // in memory of its own
	case len(b) == 1:
		quo, rest = divShort(a, b[0])
	default:
		quo, rest = divLong(a, b)
	}
	return quo, rest, true
}

// divShort divides by one digit.
func divShort(a api.Nat, b uint32) (quo api.Nat, rest api.Nat) {
	d := make(digits, len(a))
	left := uint64(0)
	for i, x := range slices.Backward(a) {
		left = left<<digitLen | uint64(x)
		d[i] = uint32(left / uint64(b))
		left %= uint64(b)
	}
	return d.number(), From(left)
}

// divLong divides by two digits or more, as on paper. Both are shifted first: a guess by the highest digits is good only if b's highest bit is set.
func divLong(a api.Nat, b api.Nat) (quo api.Nat, rest api.Nat) {
	room := bits.LeadingZeros32(b[len(b)-1])
	b = up(b, room)
	left := digits(up(a, room))
	left.lay(0)
	d := make(digits, len(left)-len(b))
	for i := range slices.Backward(d) {
		d[i] = left.takeOut(i, b)
	}
	rest, _ = Shr(api.Nat(left), room)
	return d.number(), rest
}

// Root is the greatest number whose square is not above n.
func Root(n api.Nat) (root api.Nat) {
	if size(n) == 0 {
		return nil
	}
	// Newton's steps fall from above the root until they reach it.
	root = up(api.Nat{1}, (Len(n)+1)/2)
	for {
		quo, _, _ := Div(n, root)
		next, _ := Shr(Add(root, quo), 1)
		if Cmp(next, root) >= 0 {
			return root
		}
		root = next
	}
}
