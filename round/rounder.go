package round

import (
	"math"

	"levelling/api"
	"levelling/bits"
	"levelling/nat"
)

// piece is a number as far as rounding needs it: n times 2 to the power of exp and, if more, something above that, but less than 2 to the power of exp. With more, n has cutLen bits at least.
type piece struct {
	neg  bool
	n    api.Nat
	exp  int
	more bool
}

// rounder has what a float is rounded from; its methods are the three ways to come to it.
type rounder struct {
	a api.Dyad
	b api.Dyad
}

// whole is a itself.
func (r rounder) whole() piece {
	return piece{neg: r.a.Neg, n: r.a.N, exp: r.a.Exp}
}

// quotient is a divided by b, which must not be 0.
func (r rounder) quotient() piece {
	if len(r.a.N) == 0 {
		return piece{}
	}
	neg := r.a.Neg != r.b.Neg
	longer := nat.Len(r.b.N) - nat.Len(r.a.N)
	exp := r.a.Exp - r.b.Exp
	if top := exp - longer; top < -farTop || top > farTop {
		return far(neg, top)
	}
	lift := max(0, longer+cutLen)
	quo, rest, _ := nat.Div(nat.Shl(r.a.N, lift), r.b.N)
	return piece{neg: neg, n: quo, exp: exp - lift, more: len(rest) != 0}
}

// root is the root of a, which must not be below 0.
func (r rounder) root() piece {
	size, exp := nat.Len(r.a.N), r.a.Exp
	if top := (size + exp) / 2; top < -farTop || top > farTop {
		return far(false, top)
	}
	lift := max(0, 2*cutLen-size)
	if (exp-lift)%2 != 0 {
		lift++
	}
	n := nat.Shl(r.a.N, lift)
	root := nat.Root(n)
	more := nat.Cmp(nat.Mul(root, root), n) != 0
	return piece{n: root, exp: (exp - lift) / 2, more: more}
}

// far stands for a number so great, or so small, that its digits are of no moment: to count them might be to shift by more than nat does.
func far(neg bool, top int) piece {
	return piece{neg: neg, n: nat.From(1), exp: top}
}

// nearest is the float of the number that one of the three ways comes to.
func nearest(way func() piece) float64 {
	p := way()
	top := p.exp + nat.Len(p.n) - 1
	switch {
	case len(p.n) == 0:
		return 0
	case top > mostTop:
		return infinity(p.neg)
	case top < leastExp-1:
		return float(p.neg, 0, 0)
	}
	last := max(top-mantLen+1, leastExp)
	if last <= p.exp {
		n, _ := nat.Low(p.n)
		return float(p.neg, n, p.exp)
	}
	return float(p.neg, p.even(last), last)
}

// even is how often 2 to the power of last goes into p, rounded to nearest, ties to even.
func (p piece) even(last int) uint64 {
	halves, all := nat.Shr(p.n, last-p.exp-1)
	n, _ := nat.Low(halves)
	odd := n&2 != 0
	if n&1 != 0 && (odd || p.more || !all) {
		n++
	}
	return n >> 1
}

// float is n times 2 to the power of exp: n must have a float's bits at most, or be the power of two above those.
func float(neg bool, n uint64, exp int) float64 {
	x, is := bits.Make(neg, n, exp)
	if !is {
		return infinity(neg)
	}
	return x
}

func infinity(neg bool) float64 {
	if neg {
		return math.Inf(-1)
	}
	return math.Inf(1)
}
