package near

import (
	"math"
	"math/big"
	"slices"
	"testing"

	"levelling/api"
	"levelling/dyad"
	"levelling/gram"
)

const (
	least    = math.SmallestNonzeroFloat64
	greatest = math.MaxFloat64
)

var (
	minusZero = math.Copysign(0, -1)
	infinity  = math.Inf(1)
)

// outside has numbers of columns of which there is no Gram list.
var outside = []int{0, -1, -2, -3, 7, 8, 100, math.MaxInt, math.MaxInt - 1, math.MinInt, math.MinInt + 1}

// unlike has numbers of rotations that may not be.
var unlike = []int{-1, -2, 100001, 200000, 1 << 32, math.MaxInt, math.MaxInt - 1, math.MinInt}

// wrong has dyads that may not be.
func wrong() []api.Dyad {
	return []api.Dyad{
		{Neg: true},
		{Exp: 1},
		{N: api.Nat{}, Exp: -3},
		{N: api.Nat{2}},
		{N: api.Nat{0, 1}},
		{N: api.Nat{0}},
		{N: api.Nat{1, 0}},
		{N: api.Nat{1}, Exp: 20001},
		{N: api.Nat{1}, Exp: -20001},
		{N: api.Nat{3}, Exp: math.MaxInt},
		{N: api.Nat{3}, Exp: math.MinInt},
		{Neg: true, N: api.Nat{4}, Exp: 2},
	}
}

func same(a, b api.Dyad) bool {
	return a.Neg == b.Neg && a.Exp == b.Exp && slices.Equal(a.N, b.N)
}

func isZero(d api.Dyad) bool { return same(d, api.Dyad{}) }

func of(x float64) api.Dyad {
	d, is := dyad.From(x)
	if !is {
		panic("no number")
	}
	return d
}

func power(exp int) api.Dyad { return dyad.Norm(false, api.Nat{1}, exp) }

// digits is n, which is not below 0, as a number's digits.
func digits(n *big.Int) api.Nat {
	var out api.Nat
	left := new(big.Int).Set(n)
	for base := big.NewInt(1 << 32); left.Sign() > 0; {
		digit := new(big.Int)
		left.DivMod(left, base, digit)
		out = append(out, uint32(digit.Uint64()))
	}
	return out
}

func bigOf(n api.Nat) *big.Int {
	out := new(big.Int)
	for _, x := range slices.Backward(n) {
		out.Lsh(out, 32)
		out.Or(out, big.NewInt(int64(x)))
	}
	return out
}

// scaled is n times 2 to the power of exp.
func scaled(n *big.Int, exp int) *big.Rat {
	if exp < 0 {
		return new(big.Rat).SetFrac(n, new(big.Int).Lsh(big.NewInt(1), uint(-exp)))
	}
	return new(big.Rat).SetInt(new(big.Int).Lsh(n, uint(exp)))
}

// may tells over again whether d may be.
func may(d api.Dyad) bool {
	if len(d.N) == 0 {
		return !d.Neg && d.Exp == 0
	}
	return d.N[0]%2 == 1 && d.N[len(d.N)-1] != 0 && d.Exp >= -20000 && d.Exp <= 20000
}

// ratio is d, by the library's numbers; 0, if d may not be.
func ratio(d api.Dyad) *big.Rat {
	if !may(d) {
		return new(big.Rat)
	}
	r := scaled(bigOf(d.N), d.Exp)
	if d.Neg {
		r.Neg(r)
	}
	return r
}

// dyadOf is r, which is a whole number times a power of two, as a dyad.
func dyadOf(r *big.Rat) api.Dyad {
	if r.Sign() == 0 {
		return api.Dyad{}
	}
	n := new(big.Int).Abs(r.Num())
	zeros := n.TrailingZeroBits()
	exp := int(zeros) - (r.Denom().BitLen() - 1)
	return api.Dyad{Neg: r.Sign() < 0, N: digits(n.Rsh(n, zeros)), Exp: exp}
}

func plus(l ...*big.Rat) *big.Rat {
	sum := new(big.Rat)
	for _, r := range l {
		sum.Add(sum, r)
	}
	return sum
}

func times(l ...*big.Rat) *big.Rat {
	product := big.NewRat(1, 1)
	for _, r := range l {
		product.Mul(product, r)
	}
	return product
}

func two(exp int) *big.Rat { return scaled(big.NewInt(1), exp) }

// upByWords says P9.1 over again, by the library's numbers.
func upByWords(d api.Dyad) *big.Rat {
	if !may(d) || d.Neg || len(d.N) == 0 {
		return new(big.Rat)
	}
	n := bigOf(d.N)
	c := n.BitLen() - 128
	if (d.Exp+c)&1 == 1 {
		c++
	}
	m := new(big.Int)
	if c <= 0 {
		m.Lsh(n, uint(-c))
	} else {
		m.Rsh(n, uint(c))
		m.Add(m, big.NewInt(1))
	}
	root := m.Sqrt(m)
	return scaled(root.Add(root, big.NewInt(1)), (d.Exp+c)/2)
}

// boundByWords says P9.2 over again, by the library's numbers, of a k that may be.
func boundByWords(a, b api.Dyad, k int) *big.Rat {
	up, too, turns := upByWords(a), upByWords(b), big.NewRat(int64(k), 1)
	return plus(
		times(big.NewRat(64, 1), turns, two(-53), up, too),
		times(turns, two(-1060), plus(up, too)),
		times(turns, turns, two(-2140)),
	)
}

// drawer hands out numbers, the same ones again for each start.
type drawer uint64

func (d *drawer) next() uint64 {
	*d ^= *d << 13
	*d ^= *d >> 7
	*d ^= *d << 17
	return uint64(*d)
}

func (d *drawer) below(n int) int { return int(d.next() % uint64(n)) }

// odd is an odd number of just so many bits, as digits.
func (d *drawer) odd(length int) api.Nat {
	n := big.NewInt(1)
	for n.BitLen() < length {
		free := min(length-n.BitLen(), 32)
		n.Lsh(n, uint(free))
		n.Or(n, new(big.Int).SetUint64(d.next()>>(64-free)))
	}
	n.SetBit(n, 0, 1)
	return digits(n)
}

// dyad has up to so many bits, an exponent at most width away from 0, and any sign.
func (d *drawer) dyad(bits, width int) api.Dyad {
	return api.Dyad{Neg: d.next()%2 == 0, N: d.odd(1 + d.below(bits)), Exp: d.below(2*width+1) - width}
}

// above0 is such a dyad without a sign.
func (d *drawer) above0(bits, width int) api.Dyad {
	x := d.dyad(bits, width)
	x.Neg = false
	return x
}

// float has any fraction and sign; its exponent is at most width away from 0.
func (d *drawer) float(width int) float64 {
	x := math.Ldexp(1+float64(d.next()>>12)/(1<<52), d.below(2*width+1)-width)
	if d.next()%2 == 0 {
		return -x
	}
	return x
}

// place is where row i, column j is stored, counted entry by entry.
func place(cols, i, j int) int {
	i, j = min(i, j), max(i, j)
	at := 0
	for row := range i {
		at += cols + 1 - row
	}
	return at + j - i
}

func size(cols int) int { return (cols + 1) * (cols + 2) / 2 }

// list is a Gram list whose entries are any dyads, but on the diagonal none is below 0.
func (d *drawer) list(cols, bits, width int) []api.Dyad {
	l := make([]api.Dyad, size(cols))
	for i := range l {
		l[i] = d.dyad(bits, width)
	}
	for i := range cols + 1 {
		l[place(cols, i, i)].Neg = false
	}
	return l
}

func holdUp(t *testing.T, d api.Dyad) {
	t.Helper()
	u, want := Up(d), dyadOf(upByWords(d))
	if !same(u, want) {
		t.Errorf("Up(%v): %v, not %v", d, u, want)
	}
	if isZero(want) {
		return
	}
	square := times(ratio(u), ratio(u))
	high := times(ratio(d), plus(two(0), two(-61)))
	if square.Cmp(ratio(d)) < 0 || square.Cmp(high) > 0 {
		t.Errorf("Up(%v): %v: its square is not a little above", d, u)
	}
}

// P9.1: the document's example, and numbers by hand.
func TestUp(t *testing.T) {
	for _, c := range []struct{ d, want api.Dyad }{
		// 4 is 1 times 2^2: c is -126, m is 2^126, and its root and 1 more is 2^63 + 1, times 2^-62.
		{of(4), api.Dyad{N: api.Nat{1, 1 << 31}, Exp: -62}},
		{of(1), api.Dyad{N: api.Nat{1, 1 << 31}, Exp: -63}},
		{of(0.25), api.Dyad{N: api.Nat{1, 1 << 31}, Exp: -64}},
		// 9 has 4 bits: c is -124, its root and 1 more 3 times 2^62, and 1.
		{of(9), api.Dyad{N: api.Nat{1, 3 << 30}, Exp: -62}},
		// 2^128 - 1 is not cut: its root and 1 more is 2^64.
		{api.Dyad{N: api.Nat{1<<32 - 1, 1<<32 - 1, 1<<32 - 1, 1<<32 - 1}}, power(64)},
		{power(-20000), api.Dyad{N: api.Nat{1, 1 << 31}, Exp: -10063}},
		{power(20000), api.Dyad{N: api.Nat{1, 1 << 31}, Exp: 9937}},
	} {
		if u := Up(c.d); !same(u, c.want) {
			t.Errorf("Up(%v): %v, not %v", c.d, u, c.want)
		}
		holdUp(t, c.d)
	}
}

// P9.1: lengths around that to which a number is cut, with exponents that are even and odd.
func TestUpAtEachLength(t *testing.T) {
	seed := drawer(1)
	lengths := []int{1, 2, 3, 31, 32, 33, 53, 63, 64, 65, 95, 96, 97, 106, 159, 160, 161, 255, 256, 257, 1000, 1001, 4321, 40001, 59900, 59901}
	for n := 120; n <= 136; n++ {
		lengths = append(lengths, n)
	}
	for _, n := range lengths {
		for _, exp := range []int{-20000, -19999, -3000, -2001, -3, -2, -1, 0, 1, 2, 3, 2001, 3000, 19999, 20000} {
			// Far beyond that there is no dyad of the root.
			if exp+n-128 < 39800 {
				holdUp(t, api.Dyad{N: seed.odd(n), Exp: exp})
			}
		}
	}
}

// P9.1: squares, and what is one more or less, where 1 more or less ahead of the root is to be seen.
func TestUpAroundSquares(t *testing.T) {
	seed := drawer(2)
	one := big.NewInt(1)
	around := func(n *big.Int, exp int) {
		for _, by := range []int64{-2, -1, 0, 1, 2} {
			d := dyad.Norm(false, digits(new(big.Int).Add(n, big.NewInt(by))), exp)
			holdUp(t, d)
		}
	}
	for range 200 {
		root := new(big.Int).SetUint64(seed.next() | 1<<63)
		square := new(big.Int).Mul(root, root)
		for _, exp := range []int{-4, -1, 0, 3} {
			around(square, exp)
			for _, cut := range []uint{1, 2, 5} {
				long := new(big.Int).Lsh(square, cut)
				around(long, exp)
				// What is cut off is all ones, or but one.
				holdUp(t, api.Dyad{N: digits(new(big.Int).Sub(long, one)), Exp: exp})
				holdUp(t, api.Dyad{N: digits(new(big.Int).Or(long, one)), Exp: exp})
			}
		}
	}
	high := new(big.Int).Lsh(one, 128)
	around(high, 0)
	around(high, 1)
	around(new(big.Int).Lsh(one, 127), 0)
	around(new(big.Int).Lsh(one, 127), 1)
}

// P9.1: floats, and products of them.
func TestUpOfFloats(t *testing.T) {
	seed := drawer(3)
	for _, x := range []float64{least, 3 * least, 0x1p-1022, greatest, 0x1p400, 0x1p-400, 0.3, 12345} {
		holdUp(t, of(x))
		holdUp(t, dyad.Mul(of(x), of(x)))
	}
	for range 500 {
		x := of(math.Abs(seed.float(400)))
		holdUp(t, x)
		holdUp(t, dyad.Mul(x, x))
		holdUp(t, dyad.Add(dyad.Mul(x, x), of(math.Abs(seed.float(400)))))
	}
}

// P9.1: what is not above 0, and what may not be.
func TestUpOfNothing(t *testing.T) {
	for _, d := range append(wrong(), api.Dyad{}, api.Dyad{N: api.Nat{}}, of(-4), of(-least), of(-1), dyad.Neg(power(20000)), dyad.Neg(power(-20000))) {
		if u := Up(d); !isZero(u) {
			t.Errorf("Up(%v): %v", d, u)
		}
	}
}

// P9.1: no dyad has such an exponent: nothing is promised but an end.
func TestUpBeyondTheBound(t *testing.T) {
	seed := drawer(4)
	for _, n := range []int{60200, 100127, 100128, 100129, 100200, 150000} {
		for _, exp := range []int{-20000, 0, 20000} {
			if u := Up(api.Dyad{N: seed.odd(n), Exp: exp}); !dyad.Check(u) {
				t.Errorf("Up of %d bits and %d: %v", n, exp, u)
			}
		}
	}
}

func holdBound(t *testing.T, a, b api.Dyad, k int) {
	t.Helper()
	if got, want := Bound(a, b, k), dyadOf(boundByWords(a, b, k)); !same(got, want) {
		t.Errorf("Bound(%v, %v, %d): %v, not %v", a, b, k, got, want)
	}
}

// P9.2
func TestBound(t *testing.T) {
	seed := drawer(5)
	turns := []int{0, 1, 2, 3, 7, 64, 4096, 65535, 65536, 92681, 92682, 99999, 100000}
	for _, k := range turns {
		for _, x := range []float64{0, 1, 4, 0.3, least, greatest, 0x1p400, 0x1p-400, -1} {
			for _, y := range []float64{0, 9, 0x1p-1000, 0x1p1000, -4} {
				holdBound(t, of(x), of(y), k)
				holdBound(t, of(y), of(x), k)
			}
		}
		for _, width := range []int{0, 10, 1000, 2200, 6000} {
			for range 20 {
				holdBound(t, seed.dyad(300, width), seed.dyad(300, width), k)
				holdBound(t, seed.above0(300, width), seed.above0(300, width), k)
			}
		}
		for _, d := range wrong() {
			holdBound(t, d, of(3), k)
			holdBound(t, of(3), d, k)
			holdBound(t, d, d, k)
		}
	}
	if b := Bound(api.Dyad{}, api.Dyad{}, 3); !same(b, dyad.Norm(false, api.Nat{9}, -2140)) {
		t.Errorf("Bound of nothing: %v", b)
	}
}

// P9.2: wrong inputs.
func TestBoundRefuses(t *testing.T) {
	for _, k := range unlike {
		if b := Bound(of(1), of(4), k); !isZero(b) {
			t.Errorf("Bound(1, 4, %d): %v", k, b)
		}
		if b := Bound(api.Dyad{}, api.Dyad{}, k); !isZero(b) {
			t.Errorf("Bound(0, 0, %d): %v", k, b)
		}
	}
}

// with is l with d added at a place.
func with(l []api.Dyad, at int, d api.Dyad) []api.Dyad {
	l = slices.Clone(l)
	l[at] = dyad.Add(l[at], d)
	return l
}

func holdCheck(t *testing.T, cols int, net, in, got []api.Dyad, k, at int, want bool) {
	t.Helper()
	if place, is := Check(cols, net, in, got, k); place != at || is != want {
		t.Errorf("Check(%d, %v, %v, %v, %d): %d, %v, not %d, %v", cols, net, in, got, k, place, is, at, want)
	}
}

// P9.3: at each place of each list, just at the bound, and a little beyond it.
func TestCheckAtTheBound(t *testing.T) {
	seed := drawer(6)
	little := power(-5000)
	for cols := 1; cols <= 6; cols++ {
		for _, k := range []int{0, 1, 3, 4096, 100000} {
			net, in := seed.list(cols, 100, 300), seed.list(cols, 100, 300)
			for i := range cols + 1 {
				for j := i; j <= cols; j++ {
					at := place(cols, i, j)
					b := dyadOf(boundByWords(in[place(cols, i, i)], in[place(cols, j, j)], k))
					beyond := dyad.Add(b, little)
					holdCheck(t, cols, net, in, with(net, at, b), k, 0, true)
					holdCheck(t, cols, net, in, with(net, at, dyad.Neg(b)), k, 0, true)
					holdCheck(t, cols, net, in, with(net, at, beyond), k, at, false)
					holdCheck(t, cols, net, in, with(net, at, dyad.Neg(beyond)), k, at, false)
					holdCheck(t, cols, with(net, at, beyond), in, net, k, at, false)
				}
			}
		}
	}
}

// P9.3: the first place is told, of all.
func TestCheckTellsTheFirstPlace(t *testing.T) {
	seed := drawer(7)
	for cols := 1; cols <= 6; cols++ {
		net, in := seed.list(cols, 60, 20), seed.list(cols, 60, 20)
		got := slices.Clone(net)
		for at := size(cols) - 1; at >= 0; at-- {
			got[at] = dyad.Add(got[at], power(300))
			holdCheck(t, cols, net, in, got, 5, at, false)
		}
		holdCheck(t, cols, net, in, net, 5, 0, true)
	}
}

// P9.3: a column that had nothing, or whose square is below 0 or may not be, has norm 0; entries of in that are not on the diagonal are of no moment.
func TestCheckTakesTheDiagonal(t *testing.T) {
	net := []api.Dyad{of(1), of(2), of(3), of(4), of(5), of(6)}
	for _, d := range append(wrong(), api.Dyad{}, of(-7)) {
		in := []api.Dyad{d, of(1e300), of(1e300), of(4), of(1e300), of(9)}
		for i := range 3 {
			for j := i; j < 3; j++ {
				at := place(2, i, j)
				b := dyadOf(boundByWords(in[place(2, i, i)], in[place(2, j, j)], 2))
				holdCheck(t, 2, net, in, with(net, at, b), 2, 0, true)
				holdCheck(t, 2, net, in, with(net, at, dyad.Add(b, power(-5000))), 2, at, false)
			}
		}
	}
	// Entries that may not be are taken as 0.
	for _, d := range wrong() {
		in := slices.Repeat([]api.Dyad{of(1)}, 3)
		holdCheck(t, 1, []api.Dyad{of(1), d, of(1)}, in, []api.Dyad{of(1), of(0), of(1)}, 1, 0, true)
		holdCheck(t, 1, []api.Dyad{of(1), of(0), of(1)}, in, []api.Dyad{of(1), d, of(1)}, 1, 0, true)
		holdCheck(t, 1, []api.Dyad{of(1), of(1), of(1)}, in, []api.Dyad{of(1), d, of(1)}, 1, 1, false)
		holdCheck(t, 1, []api.Dyad{of(1), of(1), d}, in, []api.Dyad{of(1), of(1), of(1)}, 1, 2, false)
	}
}

// P9.3: wrong inputs.
func TestCheckRefuses(t *testing.T) {
	for cols := 1; cols <= 6; cols++ {
		l := slices.Repeat([]api.Dyad{of(2)}, size(cols))
		holdCheck(t, cols, l, l, l, 0, 0, true)
		holdCheck(t, cols, l, l, l, 100000, 0, true)
		for _, k := range unlike {
			holdCheck(t, cols, l, l, l, k, 0, false)
		}
		for _, other := range [][]api.Dyad{nil, {}, l[1:], l[:1], append(slices.Clone(l), of(2)), slices.Repeat(l, 5)} {
			holdCheck(t, cols, other, l, l, 1, 0, false)
			holdCheck(t, cols, l, other, l, 1, 0, false)
			holdCheck(t, cols, l, l, other, 1, 0, false)
			holdCheck(t, cols, other, other, other, 1, 0, false)
		}
		for other := 1; other <= 6; other++ {
			holdCheck(t, other, l, l, l, 1, 0, other == cols)
		}
	}
	for _, cols := range outside {
		for _, n := range []int{0, 1, 3, 28, 36} {
			l := make([]api.Dyad, n)
			holdCheck(t, cols, l, l, l, 1, 0, false)
		}
		holdCheck(t, cols, nil, nil, nil, 1, 0, false)
	}
}

// sums is what answers come to for column i, without the last column's entry.
func sums(cols int, net []api.Dyad, x []float64, i int) *big.Rat {
	sum := new(big.Rat)
	for j, f := range x {
		sum.Add(sum, times(ratio(net[place(cols, i, j)]), ratio(of(f))))
	}
	return sum
}

// allowedByWords is what P9.4 lets answers leave over for column i.
func allowedByWords(cols int, in []api.Dyad, x []float64, i, k int) *big.Rat {
	square := func(j int) api.Dyad { return in[place(cols, j, j)] }
	most := boundByWords(square(i), square(cols), k+1)
	for j, f := range x {
		size := new(big.Rat).Abs(ratio(of(f)))
		most.Add(most, times(boundByWords(square(i), square(j), k+1), size))
	}
	sizes := two(0)
	for j := range cols + 1 {
		sizes.Add(sizes, upByWords(square(j)))
	}
	return most.Add(most, times(two(-1060), plus(upByWords(square(i)), two(-1060)), sizes))
}

// leaving is net, whose last column is such that x leaves just rest for each column i.
func leaving(cols int, net []api.Dyad, x []float64, rest func(i int) *big.Rat) []api.Dyad {
	net = slices.Clone(net)
	for i := range cols {
		net[place(cols, i, cols)] = dyadOf(plus(sums(cols, net, x, i), rest(i)))
	}
	return net
}

func holdNormal(t *testing.T, cols int, net, in []api.Dyad, x []float64, k, at int, want bool) {
	t.Helper()
	if i, is := Normal(cols, net, in, x, k); i != at || is != want {
		t.Errorf("Normal(%d, %v, %v, %v, %d): %d, %v, not %d, %v", cols, net, in, x, k, i, is, at, want)
	}
}

// answers are as many floats as columns; one may be 0.
func (d *drawer) answers(cols, width int) []float64 {
	x := make([]float64, cols)
	for i := range x {
		x[i] = d.float(width)
	}
	if d.next()%3 == 0 {
		x[d.below(cols)] = minusZero
	}
	return x
}

func minus(r *big.Rat) *big.Rat { return new(big.Rat).Neg(r) }

// P9.4: for each column, just what is allowed, and a little more.
func TestNormalAtTheBound(t *testing.T) {
	seed := drawer(8)
	for cols := 1; cols <= 6; cols++ {
		for _, k := range []int{0, 1, 4095, 99999} {
			for _, width := range []int{2, 400, 900} {
				net, in, x := seed.list(cols, 100, width), seed.list(cols, 100, width), seed.answers(cols, width)
				allowed := func(i int) *big.Rat { return allowedByWords(cols, in, x, i, k) }
				holdNormal(t, cols, leaving(cols, net, x, allowed), in, x, k, 0, true)
				holdNormal(t, cols, leaving(cols, net, x, func(i int) *big.Rat { return minus(allowed(i)) }), in, x, k, 0, true)
				holdNormal(t, cols, leaving(cols, net, x, func(int) *big.Rat { return new(big.Rat) }), in, x, k, 0, true)
				for at := range cols {
					beyond := func(i int) *big.Rat {
						if i != at {
							return allowed(i)
						}
						return plus(allowed(i), two(-9000))
					}
					holdNormal(t, cols, leaving(cols, net, x, beyond), in, x, k, at, false)
					holdNormal(t, cols, leaving(cols, net, x, func(i int) *big.Rat { return minus(beyond(i)) }), in, x, k, at, false)
				}
			}
		}
	}
}

// P9.4: columns that have nothing leave over no more than what vanishes.
func TestNormalOfNothing(t *testing.T) {
	for cols := 1; cols <= 6; cols++ {
		in, x := make([]api.Dyad, size(cols)), make([]float64, cols)
		for _, k := range []int{0, 3, 99999} {
			allowed := func(i int) *big.Rat { return allowedByWords(cols, in, x, i, k) }
			want := plus(two(-2120), times(big.NewRat(int64(k+1), 1), big.NewRat(int64(k+1), 1), two(-2140)))
			if allowed(0).Cmp(want) != 0 {
				t.Fatalf("%v is not %v", allowed(0), want)
			}
			net := leaving(cols, in, x, allowed)
			holdNormal(t, cols, net, in, x, k, 0, true)
			holdNormal(t, cols, with(net, place(cols, cols-1, cols), power(-9000)), in, x, k, cols-1, false)
		}
	}
}

// P9.4: the first column is told, of all.
func TestNormalTellsTheFirstColumn(t *testing.T) {
	seed := drawer(9)
	for cols := 1; cols <= 6; cols++ {
		in, x := seed.list(cols, 50, 20), seed.answers(cols, 20)
		net := leaving(cols, seed.list(cols, 50, 20), x, func(int) *big.Rat { return new(big.Rat) })
		for i := cols - 1; i >= 0; i-- {
			net = with(net, place(cols, i, cols), power(300))
			holdNormal(t, cols, net, in, x, 7, i, false)
		}
	}
}

// P9.4: the last column's own square is of no moment; what may not be is taken as 0.
func TestNormalTakesWhatMayBe(t *testing.T) {
	net, in := []api.Dyad{of(5), of(10), of(1e300)}, []api.Dyad{of(5), of(1e300), of(20)}
	holdNormal(t, 1, net, in, []float64{2}, 0, 0, true)
	holdNormal(t, 1, net, in, []float64{3}, 0, 0, false)
	for _, d := range wrong() {
		holdNormal(t, 1, []api.Dyad{d, of(0), of(1)}, in, []float64{2}, 0, 0, true)
		holdNormal(t, 1, []api.Dyad{of(5), d, of(1)}, in, []float64{0}, 0, 0, true)
		holdNormal(t, 1, []api.Dyad{d, of(10), of(1)}, in, []float64{2}, 0, 0, false)
		holdNormal(t, 1, []api.Dyad{of(5), d, of(1)}, in, []float64{2}, 0, 0, false)
		holdNormal(t, 1, net, []api.Dyad{d, d, d}, []float64{2}, 0, 0, true)
		holdNormal(t, 1, net, []api.Dyad{d, d, d}, []float64{math.Nextafter(2, 3)}, 0, 0, false)
	}
}

// P9.4: wrong inputs.
func TestNormalRefuses(t *testing.T) {
	for cols := 1; cols <= 6; cols++ {
		l, x := make([]api.Dyad, size(cols)), slices.Repeat([]float64{1}, cols)
		holdNormal(t, cols, l, l, x, 0, 0, true)
		holdNormal(t, cols, l, l, x, 99999, 0, true)
		for _, k := range append([]int{100000}, unlike...) {
			holdNormal(t, cols, l, l, x, k, 0, false)
		}
		for _, other := range [][]api.Dyad{nil, {}, l[1:], l[:1], append(slices.Clone(l), of(0)), slices.Repeat(l, 5)} {
			holdNormal(t, cols, other, l, x, 1, 0, false)
			holdNormal(t, cols, l, other, x, 1, 0, false)
			holdNormal(t, cols, other, other, x, 1, 0, false)
		}
		for _, other := range [][]float64{nil, {}, x[1:], append(slices.Clone(x), 1), slices.Repeat(x, 3)} {
			holdNormal(t, cols, l, l, other, 1, 0, false)
		}
		for i := range cols {
			for _, f := range []float64{infinity, -infinity, math.NaN()} {
				other := slices.Clone(x)
				other[i] = f
				holdNormal(t, cols, l, l, other, 1, 0, false)
			}
			for _, f := range []float64{minusZero, least, -greatest} {
				other := slices.Clone(x)
				other[i] = f
				holdNormal(t, cols, l, l, other, 1, 0, true)
			}
		}
	}
	for _, cols := range outside {
		for _, n := range []int{0, 1, 3, 28, 36} {
			l := make([]api.Dyad, n)
			for _, m := range []int{0, 1, 7, 8} {
				holdNormal(t, cols, l, l, make([]float64, m), 1, 0, false)
			}
		}
	}
}

// P9.5: what is near for k rotations is near for more.
func TestNearForMore(t *testing.T) {
	seed := drawer(10)
	turns := []int{0, 1, 2, 5, 100, 4096, 50000, 99999}
	becameNear, becameNormal := 0, 0
	for cols := 1; cols <= 6; cols++ {
		for range 20 {
			net, in, x := seed.list(cols, 60, 10), seed.list(cols, 60, 10), seed.answers(cols, 3)
			moved := with(net, seed.below(size(cols)), seed.dyad(10, 30))
			rest := ratio(seed.dyad(10, 30))
			normal := leaving(cols, net, x, func(int) *big.Rat { return rest })
			wasNear, wasNormal := false, false
			for _, k := range turns {
				_, near := Check(cols, net, in, moved, k)
				_, answered := Normal(cols, normal, in, x, k)
				if wasNear && !near || wasNormal && !answered {
					t.Errorf("%d columns: no more near for %d", cols, k)
				}
				if near && !wasNear && k > 1 {
					becameNear++
				}
				if answered && !wasNormal && k > 0 {
					becameNormal++
				}
				wasNear, wasNormal = near, answered
			}
		}
	}
	if becameNear < 20 || becameNormal < 20 {
		t.Errorf("only %d and %d became near", becameNear, becameNormal)
	}
}

// P9.5: net is near to itself, even without a rotation.
func TestNetIsNearToItself(t *testing.T) {
	seed := drawer(11)
	for cols := 1; cols <= 6; cols++ {
		for _, k := range []int{0, 1, 4096, 100000} {
			net := seed.list(cols, 200, 900)
			holdCheck(t, cols, net, seed.list(cols, 200, 900), net, k, 0, true)
			holdCheck(t, cols, net, make([]api.Dyad, size(cols)), net, k, 0, true)
			holdCheck(t, cols, slices.Repeat(wrong()[3:4], size(cols)), net, slices.Repeat(wrong()[3:4], size(cols)), k, 0, true)
		}
	}
}

// P9.3, P9.4: a Gram list of rows, and answers that leave nothing over.
func TestRowsThatLeaveNothing(t *testing.T) {
	rows := []api.Row{{X: []float64{1, 0}, Y: 1}, {X: []float64{1, 1}, Y: 3}, {X: []float64{1, 2}, Y: 5}}
	net, _ := gram.Rows(2, rows)
	holdNormal(t, 2, net, net, []float64{1, 2}, 0, 0, true)
	holdNormal(t, 2, net, net, []float64{1, 2 + 0x1p-51}, 0, 0, true)
	holdNormal(t, 2, net, net, []float64{1, 2 + 0x1p-30}, 0, 0, false)
	holdNormal(t, 2, net, net, []float64{1, 2 + 0x1p-40}, 99999, 0, true)
	// For the first column nothing is left over, for the second one 2.
	holdNormal(t, 2, net, net, []float64{2, 1}, 0, 1, false)
}

func copied(l []api.Dyad) []api.Dyad {
	out := slices.Clone(l)
	for i := range out {
		out[i].N = slices.Clone(out[i].N)
	}
	return out
}

// R5: what is handed in is not changed, and no answer shares its memory.
func TestAnswersAreNewMemory(t *testing.T) {
	seed := drawer(12)
	for cols := 1; cols <= 6; cols++ {
		net, in, got, x := seed.list(cols, 150, 20), seed.list(cols, 150, 20), seed.list(cols, 150, 20), seed.answers(cols, 4)
		a, b, c, y := copied(net), copied(in), copied(got), slices.Clone(x)
		Check(cols, net, in, net, 3)
		Check(cols, net, in, got, 3)
		Normal(cols, net, in, x, 3)
		if !slices.EqualFunc(net, a, same) || !slices.EqualFunc(in, b, same) || !slices.EqualFunc(got, c, same) || !slices.Equal(x, y) {
			t.Fatalf("what was handed in is changed: %v, %v, %v, %v", net, in, got, x)
		}
	}
	for _, n := range []int{1, 64, 127, 128, 129, 500} {
		d := api.Dyad{N: seed.odd(n)}
		ahead := slices.Clone(d.N)
		clear(Up(d).N)
		clear(Bound(d, d, 1).N)
		clear(Bound(d, api.Dyad{}, 1).N)
		if !slices.Equal(d.N, ahead) {
			t.Errorf("what was handed in is changed: %v", d)
		}
	}
}
