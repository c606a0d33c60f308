package givens

import (
	"math"
	"testing"

	"levelling/api"
	"levelling/dyad"
	"levelling/round"
)

const (
	least    = math.SmallestNonzeroFloat64
	greatest = math.MaxFloat64
)

var (
	minusZero = math.Copysign(0, -1)
	infinity  = math.Inf(1)
	little    = math.Ldexp(1, -30)
)

func sameBits(a, b float64) bool { return math.Float64bits(a) == math.Float64bits(b) }

// alike tells whether two floats have the same bits, or both are NaN.
func alike(a, b float64) bool { return sameBits(a, b) || a != a && b != b }

func of(x float64) api.Dyad {
	d, is := dyad.From(x)
	if !is {
		panic("no number")
	}
	return d
}

func sign(neg bool) float64 {
	if neg {
		return -1
	}
	return 1
}

// plus is a and b together, rounded once, without the machine's floats.
func plus(a, b float64) float64 {
	if a == 0 && b == 0 {
		return math.Copysign(0, sign(math.Signbit(a) && math.Signbit(b)))
	}
	return round.Float(dyad.Add(of(a), of(b)))
}

func minus(a, b float64) float64 { return plus(a, -b) }

// times is a times b, rounded once, without the machine's floats.
func times(a, b float64) float64 {
	return math.Copysign(round.Float(dyad.Mul(of(a), of(b))), sign(math.Signbit(a) != math.Signbit(b)))
}

// over is a divided by b, rounded once, without the machine's floats.
func over(a, b float64) float64 {
	q, is := round.Quo(of(a), of(b))
	if !is {
		panic("divided by 0")
	}
	return math.Copysign(q, sign(math.Signbit(a) != math.Signbit(b)))
}

func root(x float64) float64 {
	r, is := round.Root(of(x))
	if !is {
		panic("no root")
	}
	return r
}

// edges has floats around all exponents where something changes, with several fractions, and both signs; 0, too.
func edges() []float64 {
	l := []float64{0, minusZero}
	for _, top := range []int{-1074, -1073, -1060, -1023, -1022, -1001, -1000, -999, -600, -538, -1, 0, 1, 27, 54, 512, 999, 1000, 1001, 1022, 1023} {
		for _, fraction := range []float64{1, 1.1, 1.625, 2 - 0x1p-52} {
			x := math.Ldexp(fraction, top)
			if math.IsInf(x, 0) {
				x = greatest
			}
			l = append(l, x, -x)
		}
	}
	return l
}

// drawer hands out floats, the same ones again for each start.
type drawer uint64

func (d *drawer) next() uint64 {
	*d ^= *d << 13
	*d ^= *d >> 7
	*d ^= *d << 17
	return uint64(*d)
}

// float has any fraction and sign; its exponent is at most width away from 0.
func (d *drawer) float(width int) float64 {
	x := math.Ldexp(1+float64(d.next()>>12)/(1<<52), int(d.next()%uint64(2*width+1))-width)
	if d.next()%2 == 0 {
		return -x
	}
	return x
}

// P6.1
func TestOf(t *testing.T) {
	for _, c := range []struct{ f, g, c, s, r float64 }{
		{3, 4, 0.6, 0.8, 5},
		{-3, 4, -0.6, 0.8, 5},
		{4, -3, 0.8, -0.6, 5},
		{-4, -3, -0.8, -0.6, 5},
		{0, 0, 1, 0, 0},
		{minusZero, 0, 1, 0, 0},
		{0, minusZero, 1, 0, 0},
		{minusZero, minusZero, 1, 0, 0},
		{0, 7, 0, 1, 7},
		{minusZero, 7, minusZero, 1, 7},
		{0, -7, 0, -1, 7},
		{7, 0, 1, 0, 7},
		{-7, 0, -1, 0, 7},
		{-7, minusZero, -1, minusZero, 7},
		{least, 0, 1, 0, least},
		{0, -least, 0, -1, least},
		{3 * least, -4 * least, 0.6, -0.8, 5 * least},
		{math.Ldexp(3, 1000), math.Ldexp(4, 1000), 0.6, 0.8, math.Ldexp(5, 1000)},
		{greatest, 0, 1, 0, greatest},
		{0, -greatest, 0, -1, greatest},
		{greatest, least, 1, 0, greatest},
		{-least, greatest, minusZero, 1, greatest},
		{math.Ldexp(1, 600), -math.Ldexp(1, -600), 1, minusZero, math.Ldexp(1, 600)},
	} {
		a, s, r, is := Of(c.f, c.g)
		if !is || !sameBits(a, c.c) || !sameBits(s, c.s) || !sameBits(r, c.r) {
			t.Errorf("Of(%v, %v): %v, %v, %v, %v, not %v, %v, %v", c.f, c.g, a, s, r, is, c.c, c.s, c.r)
		}
	}
}

// topOf is the exponent of the greatest power of two that is not above x's size; -2000 of 0.
func topOf(x float64) int {
	if x == 0 {
		return -2000
	}
	_, exp := math.Frexp(x)
	return exp - 1
}

// ofByWords says P6.1 over again, without the machine's floats.
func ofByWords(f, g float64) (float64, float64, float64, bool) {
	if f == 0 && g == 0 {
		return 1, 0, 0, true
	}
	k := topOf(f)
	if math.Abs(g) > math.Abs(f) {
		k = topOf(g)
	}
	if k < -1000 {
		k = -1000
	}
	if k > 1000 {
		k = 1000
	}
	a, b := times(f, math.Ldexp(1, -k)), times(g, math.Ldexp(1, -k))
	h := root(plus(times(a, a), times(b, b)))
	r := times(h, math.Ldexp(1, k))
	if math.IsInf(r, 0) {
		return 0, 0, 0, false
	}
	return over(a, h), over(b, h), r, true
}

func holdOf(t *testing.T, f, g float64) {
	t.Helper()
	c, s, r, is := Of(f, g)
	wantC, wantS, wantR, want := ofByWords(f, g)
	if is != want || !sameBits(c, wantC) || !sameBits(s, wantS) || !sameBits(r, wantR) {
		t.Errorf("Of(%v, %v): %v, %v, %v, %v, not %v, %v, %v, %v", f, g, c, s, r, is, wantC, wantS, wantR, want)
	}
}

// P6.1: each product, sum, quotient and root is rounded for itself.
func TestOfIsCountedOneByOne(t *testing.T) {
	l := edges()
	for i, f := range l {
		for j := i % 5; j < len(l); j += 5 {
			holdOf(t, f, l[j])
		}
	}
	seed := drawer(1)
	for _, width := range []int{0, 1, 3, 26, 400, 1020} {
		for range 300 {
			holdOf(t, seed.float(width), seed.float(width))
		}
	}
	// Here the one of the lesser size is rounded when it is scaled, so it is to be seen by how much it was.
	for range 2000 {
		holdOf(t, math.Ldexp(seed.float(11), 1011), math.Ldexp(seed.float(20), -50))
	}
}

// P6.1: wrong inputs, and an r that is no number.
func TestOfRefuses(t *testing.T) {
	refused := func(f, g float64) {
		t.Helper()
		for _, p := range [][2]float64{{f, g}, {g, f}, {-f, g}, {g, -f}, {-g, -f}} {
			c, s, r, is := Of(p[0], p[1])
			if is || !sameBits(c, 0) || !sameBits(s, 0) || !sameBits(r, 0) {
				t.Errorf("Of(%v, %v): %v, %v, %v, %v", p[0], p[1], c, s, r, is)
			}
		}
	}
	for _, x := range []float64{0, minusZero, 1, least, greatest, infinity, math.NaN()} {
		refused(infinity, x)
		refused(math.NaN(), x)
	}
	refused(greatest, greatest)
	refused(math.Ldexp(1, 1023), math.Ldexp(1.75, 1023))
	// The middle between the greatest float and 2^1024 is the first r that is infinity.
	if _, _, r, is := Of(greatest, math.Ldexp(1, 996)); !is || r != greatest {
		t.Errorf("Of(%v, 2^996): %v, %v", greatest, r, is)
	}
	refused(greatest, math.Ldexp(1, 998))
}

// P6.2
func TestTurn(t *testing.T) {
	for _, c := range []struct{ c, s, x, y, first, second float64 }{
		{1, 0, 3, -4, 3, -4},
		{0, 1, 3, -4, -4, -3},
		{0.5, 0.25, 8, 4, 5, 0},
		{0.5, -0.25, 8, 4, 3, 4},
		{0, 0, 5, 7, 0, 0},
		{minusZero, minusZero, 1, 1, minusZero, 0},
		{minusZero, 0, 1, 1, 0, minusZero},
		// No product is added without having been rounded.
		{1 + little, 1, 1 - little, -1, 0, -2},
		{1, 1 + little, -1, 1 - little, 0, 2},
		{1 + little, 1 + little, 1 - little, 1 - little, 2, 0},
		{1 + little, 1, 1, 1 - little, 2, 0},
		{1, 1 + little, 1 - little, 1, 2, 0},
		// What is too great, or no number, goes on as it is.
		{1, 1, greatest, greatest, infinity, 0},
		{1, -1, greatest, greatest, 0, infinity},
		{infinity, 0, 1, 0, infinity, math.NaN()},
		{0, infinity, 1, 1, infinity, -infinity},
		{math.NaN(), 0, 1, 1, math.NaN(), math.NaN()},
		{1, 0, math.NaN(), 1, math.NaN(), math.NaN()},
		{0, 1, 1, infinity, infinity, math.NaN()},
	} {
		x, y := Turn(c.c, c.s, c.x, c.y)
		if !alike(x, c.first) || !alike(y, c.second) {
			t.Errorf("Turn(%v, %v, %v, %v): %v, %v, not %v, %v", c.c, c.s, c.x, c.y, x, y, c.first, c.second)
		}
	}
}

// fours hands four floats to hold, again and again: of like exponents, of unlike ones, and so small that products vanish.
func fours(hold func(a, b, c, d float64)) {
	seed := drawer(7)
	for _, width := range []int{0, 1, 3, 26, 500} {
		for range 400 {
			hold(seed.float(width), seed.float(width), seed.float(width), seed.float(width))
		}
	}
	for range 200 {
		hold(seed.float(3), seed.float(3), math.Ldexp(seed.float(4), -1070), math.Ldexp(seed.float(4), -1070))
		hold(math.Ldexp(seed.float(4), -535), math.Ldexp(seed.float(4), -535), math.Ldexp(seed.float(4), -535), math.Ldexp(seed.float(4), -535))
	}
	for _, a := range []float64{0, minusZero, 1, -1} {
		for _, b := range []float64{0, minusZero, 1, -1} {
			for _, c := range []float64{0, minusZero, 2} {
				for _, d := range []float64{0, minusZero, -2} {
					hold(a, b, c, d)
				}
			}
		}
	}
}

// P6.2: each product and each sum is rounded for itself.
func TestTurnIsCountedOneByOne(t *testing.T) {
	fours(func(c, s, x, y float64) {
		first, second := Turn(c, s, x, y)
		wantFirst, wantSecond := plus(times(c, x), times(s, y)), minus(times(c, y), times(s, x))
		if !sameBits(first, wantFirst) || !sameBits(second, wantSecond) {
			t.Errorf("Turn(%v, %v, %v, %v): %v, %v, not %v, %v", c, s, x, y, first, second, wantFirst, wantSecond)
		}
	})
}

// P6.3
func TestHyper(t *testing.T) {
	below := math.Nextafter(1, 0)
	for _, c := range []struct{ r, x, c, s float64 }{
		{0, 0, 1, 0},
		{minusZero, 0, 1, 0},
		{0, minusZero, 1, 0},
		{minusZero, minusZero, 1, 0},
		{5, 3, 0.8, 0.6},
		{5, -3, 0.8, -0.6},
		{-5, 3, 0.8, -0.6},
		{-5, -3, 0.8, 0.6},
		{4, 0, 1, 0},
		{4, minusZero, 1, minusZero},
		{-4, 0, 1, minusZero},
		{least, 0, 1, 0},
		{greatest, least, 1, 0},
		{greatest, -least, 1, minusZero},
		{1, below, math.Sqrt(math.Ldexp(1, -52)), below},
		{1, -below, math.Sqrt(math.Ldexp(1, -52)), -below},
		{2 * least, least, root(0.75), 0.5},
		{greatest, greatest / 2, root(0.75), 0.5},
	} {
		a, s, is := Hyper(c.r, c.x)
		if !is || !sameBits(a, c.c) || !sameBits(s, c.s) {
			t.Errorf("Hyper(%v, %v): %v, %v, %v, not %v, %v", c.r, c.x, a, s, is, c.c, c.s)
		}
	}
}

// hyperByWords says P6.3 over again, without the machine's floats.
func hyperByWords(r, x float64) (float64, float64, bool) {
	if r == 0 && x == 0 {
		return 1, 0, true
	}
	if r == 0 {
		return 0, 0, false
	}
	s := over(x, r)
	if s >= 1 || s <= -1 {
		return 0, 0, false
	}
	return root(times(minus(1, s), plus(1, s))), s, true
}

func holdHyper(t *testing.T, r, x float64) {
	t.Helper()
	c, s, is := Hyper(r, x)
	wantC, wantS, want := hyperByWords(r, x)
	if is != want || !sameBits(c, wantC) || !sameBits(s, wantS) {
		t.Errorf("Hyper(%v, %v): %v, %v, %v, not %v, %v, %v", r, x, c, s, is, wantC, wantS, want)
	}
}

// P6.3: each product, sum, difference, quotient and root is rounded for itself.
func TestHyperIsCountedOneByOne(t *testing.T) {
	l := edges()
	for i, r := range l {
		for j := i % 5; j < len(l); j += 5 {
			holdHyper(t, r, l[j])
		}
		holdHyper(t, r, r)
		holdHyper(t, r, math.Nextafter(r, 0))
		holdHyper(t, math.Nextafter(r, 0), r)
	}
	seed := drawer(3)
	for _, width := range []int{0, 1, 3, 26, 400} {
		for range 300 {
			holdHyper(t, seed.float(width), seed.float(width))
		}
	}
}

// P6.3: wrong inputs, and an x that is not of the lesser size.
func TestHyperRefuses(t *testing.T) {
	refused := func(r, x float64) {
		t.Helper()
		for _, p := range [][2]float64{{r, x}, {-r, x}, {r, -x}, {-r, -x}} {
			if c, s, is := Hyper(p[0], p[1]); is || !sameBits(c, 0) || !sameBits(s, 0) {
				t.Errorf("Hyper(%v, %v): %v, %v, %v", p[0], p[1], c, s, is)
			}
		}
	}
	for _, x := range []float64{0, 1, least, greatest, infinity, math.NaN()} {
		refused(infinity, x)
		refused(x, infinity)
		refused(math.NaN(), x)
		refused(x, math.NaN())
		if x == x && x > 0 {
			refused(0, x)
			refused(x, x)
		}
	}
	refused(2, 5)
	refused(1, math.Nextafter(1, 2))
	refused(least, greatest)
	refused(least, 2*least)
}

// P6.4
func TestDown(t *testing.T) {
	for _, c := range []struct{ c, s, r, x, first, second float64 }{
		{1, 0, 3, -4, 3, -4},
		{0.5, 0.25, 7, 4, 12, -1},
		{0.5, -0.25, 7, 4, 16, 6},
		{1, 0, 0, 0, 0, 0},
		{1, 0, minusZero, minusZero, 0, minusZero},
		{1, 0, minusZero, 0, minusZero, 0},
		// No product is taken away without having been rounded.
		{1, 1 + little, 1, 1 - little, 0, 1 - little},
		{1 + little, 1, 2 - little, 1 - little, over(1, 1+little), minus(1, over(1, 1+little))},
		// What is too great, or no number, goes on as it is.
		{0, 0, 0, 1, math.NaN(), math.NaN()},
		{0, 0.5, 1, 0, infinity, -infinity},
		{0, 0, 1, 1, infinity, math.NaN()},
		{0.5, 0.5, greatest, 0, infinity, -infinity},
		{1, 0, math.NaN(), 1, math.NaN(), math.NaN()},
		{1, 0, infinity, 1, infinity, math.NaN()},
	} {
		p, x := Down(c.c, c.s, c.r, c.x)
		if !alike(p, c.first) || !alike(x, c.second) {
			t.Errorf("Down(%v, %v, %v, %v): %v, %v, not %v, %v", c.c, c.s, c.r, c.x, p, x, c.first, c.second)
		}
	}
}

// P6.4: each product, difference and quotient is rounded for itself.
func TestDownIsCountedOneByOne(t *testing.T) {
	fours(func(c, s, r, x float64) {
		if c == 0 {
			return
		}
		p := over(minus(r, times(s, x)), c)
		if math.IsInf(p, 0) || math.IsInf(times(s, p), 0) {
			return
		}
		left := minus(times(c, x), times(s, p))
		if first, second := Down(c, s, r, x); !sameBits(first, p) || !sameBits(second, left) {
			t.Errorf("Down(%v, %v, %v, %v): %v, %v, not %v, %v", c, s, r, x, first, second, p, left)
		}
	})
}

func square(x float64) api.Dyad { return dyad.Mul(of(x), of(x)) }

// within tells whether a and b are not further from one another than n u of size.
func within(a, b api.Dyad, n uint32, size api.Dyad) bool {
	room := dyad.Mul(dyad.Norm(false, api.Nat{n}, -53), size)
	return dyad.Cmp(dyad.Abs(dyad.Sub(a, b)), room) <= 0
}

func sizes(x, y float64) api.Dyad { return dyad.Add(dyad.Abs(of(x)), dyad.Abs(of(y))) }

// P6.5
func TestOfIsARotation(t *testing.T) {
	hold := func(f, g float64) {
		t.Helper()
		c, s, r, is := Of(f, g)
		if !is {
			return
		}
		if math.Abs(c) > 1 || math.Abs(s) > 1 || r < math.Abs(f) || r < math.Abs(g) {
			t.Errorf("Of(%v, %v): %v, %v, %v", f, g, c, s, r)
		}
		if !within(dyad.Add(square(c), square(s)), of(1), 8, of(1)) {
			t.Errorf("Of(%v, %v): %v, %v: their squares are not near to 1", f, g, c, s)
		}
	}
	l := edges()
	for i, f := range l {
		for j := i % 3; j < len(l); j += 3 {
			hold(f, l[j])
		}
	}
	seed := drawer(5)
	for range 3000 {
		hold(seed.float(3), seed.float(3))
		hold(seed.float(40), seed.float(40))
	}
}

// P6.5
func TestTurnKeepsSquaresAndTurnsBack(t *testing.T) {
	seed := drawer(9)
	for _, width := range []int{1, 20, 200} {
		for range 700 {
			c, s, _, _ := Of(seed.float(width), seed.float(width))
			x, y := seed.float(width), seed.float(width)
			first, second := Turn(c, s, x, y)
			ahead, behind := dyad.Add(square(x), square(y)), dyad.Add(square(first), square(second))
			if !within(ahead, behind, 32, ahead) {
				t.Errorf("Turn(%v, %v, %v, %v): %v, %v: the squares are not kept", c, s, x, y, first, second)
			}
			backX, backY := Turn(c, -s, first, second)
			if !within(of(x), of(backX), 32, sizes(x, y)) || !within(of(y), of(backY), 32, sizes(x, y)) {
				t.Errorf("Turn(%v, %v, %v, %v): turned back: %v, %v", c, s, x, y, backX, backY)
			}
		}
	}
}

// P6.5: f and g are themselves brought to r, and to nearly nothing.
func TestOfBringsToR(t *testing.T) {
	seed := drawer(13)
	for range 2000 {
		f, g := seed.float(20), seed.float(20)
		c, s, r, _ := Of(f, g)
		first, second := Turn(c, s, f, g)
		if !within(of(first), of(r), 16, of(r)) || !within(of(second), of(0), 16, of(r)) {
			t.Errorf("%v, %v are turned to %v, %v, not to %v", f, g, first, second, r)
		}
	}
}

// P6.5: what Down answers is that of which r and x come by the rotation.
func TestDownTurnsBack(t *testing.T) {
	seed := drawer(15)
	held := 0
	for range 4000 {
		c, s, is := Hyper(seed.float(5), seed.float(5))
		if !is {
			continue
		}
		held++
		r, x := seed.float(9), seed.float(9)
		p, left := Down(c, s, r, x)
		back, again := Turn(c, s, p, x)
		if !within(of(back), of(r), 16, sizes(r, x)) || !sameBits(again, left) {
			t.Errorf("Down(%v, %v, %v, %v): %v, %v: turned back: %v, %v", c, s, r, x, p, left, back, again)
		}
		whole := dyad.Add(of(left), dyad.Mul(of(s), of(p)))
		if !within(whole, dyad.Mul(of(c), of(x)), 16, sizes(p, x)) {
			t.Errorf("Down(%v, %v, %v, %v): %v, %v: x does not come back", c, s, r, x, p, left)
		}
	}
	if held < 1000 {
		t.Errorf("only %d were held", held)
	}
}

// A pair is compared by its numbers: zeros of any sign are the same, and NaN is like nothing.
func TestPairsAreCompared(t *testing.T) {
	if (pair{minusZero, 0}) != (pair{}) || (pair{1, 0}) == (pair{}) || (pair{0, math.NaN()}) == (pair{0, math.NaN()}) {
		t.Error("pairs are not compared by their numbers")
	}
}
