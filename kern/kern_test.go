package kern

import (
	"math"
	"slices"
	"testing"

	"levelling/api"
	"levelling/dyad"
	"levelling/round"
)

const (
	least    = math.SmallestNonzeroFloat64
	greatest = math.MaxFloat64
)

var (
	minusZero = math.Copysign(0, -1)
	low       = math.Ldexp(1, -400)
	high      = math.Ldexp(1, 400)
	little    = math.Ldexp(1, -30)
)

func sameBits(a, b float64) bool { return math.Float64bits(a) == math.Float64bits(b) }

func of(x float64) api.Dyad {
	d, is := dyad.From(x)
	if !is {
		panic("no number")
	}
	return d
}

// plus is a and b together, rounded once, without the machine's floats.
func plus(a, b float64) float64 {
	if a == 0 && b == 0 {
		return math.Copysign(0, boolSign(math.Signbit(a) && math.Signbit(b)))
	}
	return round.Float(dyad.Add(of(a), of(b)))
}

// times is a times b, rounded once, without the machine's floats.
func times(a, b float64) float64 {
	return math.Copysign(round.Float(dyad.Mul(of(a), of(b))), boolSign(math.Signbit(a) != math.Signbit(b)))
}

func root(x float64) float64 {
	r, is := round.Root(of(x))
	if !is {
		panic("no root")
	}
	return r
}

func boolSign(neg bool) float64 {
	if neg {
		return -1
	}
	return 1
}

// drawer hands out floats that are In, the same ones again for each start.
type drawer uint64

func (d *drawer) next() uint64 {
	*d ^= *d << 13
	*d ^= *d >> 7
	*d ^= *d << 17
	return uint64(*d)
}

// float has any fraction and sign; its exponent is at most width away from at.
func (d *drawer) float(at, width int) float64 {
	x := math.Ldexp(1+float64(d.next()>>12)/(1<<52), at+int(d.next()%uint64(2*width+1))-width)
	switch n := d.next() % 16; {
	case n == 0:
		return 0
	case n == 1:
		return minusZero
	case n < 9:
		return -x
	}
	return x
}

func (d *drawer) list(n, at, width int) []float64 {
	l := make([]float64, n)
	for i := range l {
		l[i] = d.float(at, width)
	}
	return l
}

// lists are of all kinds of exponents: near to one another, far from one another, at both ends of what is In.
func lists(seed drawer) [][]float64 {
	l := [][]float64{nil, {}, {0}, {minusZero}, {minusZero, 0, minusZero}, {low}, {-low, low}, {high}, {-high, high, high}, {low, high, -low}, {3, -4}, {1, 1, 1}, {0.1, 0.2, -0.3}}
	for n := range 24 {
		l = append(l, seed.list(n, 0, 1), seed.list(n, 0, 30), seed.list(n, 0, 390), seed.list(n, 395, 4), seed.list(n, -395, 5))
	}
	return append(l, seed.list(300, 0, 3), seed.list(300, -200, 60))
}

// out has floats that are not In.
func out() []float64 {
	l := []float64{math.NaN(), math.Inf(1), math.Nextafter(high, greatest), 2 * high, greatest, math.Nextafter(low, 0), low / 2, math.Ldexp(1, -1022), least}
	for _, x := range slices.Clone(l) {
		l = append(l, -x)
	}
	return l
}

// spoilt is l with one entry more that is not In, at each of its places in turn.
func spoilt(l []float64, x float64) [][]float64 {
	var all [][]float64
	for i := range len(l) + 1 {
		all = append(all, slices.Insert(slices.Clone(l), i, x))
	}
	return all
}

// P5.1
func TestAll(t *testing.T) {
	for _, l := range lists(1) {
		if !All(l) {
			t.Errorf("not all are in: %v", l)
		}
	}
	for _, x := range []float64{low, high, math.Nextafter(low, 1), math.Nextafter(high, 0), 0, minusZero} {
		if !All([]float64{x}) || !All([]float64{1, -x}) {
			t.Errorf("%v is not in", x)
		}
	}
	for _, x := range out() {
		for _, l := range spoilt([]float64{1, 0, -3}, x) {
			if All(l) {
				t.Errorf("all are in: %v", l)
			}
		}
	}
}

// P5.2
func TestDot(t *testing.T) {
	for _, c := range []struct {
		a, b []float64
		want float64
	}{
		{nil, nil, 0},
		{nil, []float64{}, 0},
		{[]float64{1, 2, 3}, []float64{4, -5, 6}, 12},
		{[]float64{minusZero}, []float64{3}, 0},
		{[]float64{minusZero, 5}, []float64{3, minusZero}, 0},
		{[]float64{3, -3}, []float64{1, 1}, 0},
		{[]float64{high, -high}, []float64{high, high}, 0},
		{[]float64{high}, []float64{-high}, -math.Ldexp(1, 800)},
		{[]float64{low}, []float64{low}, math.Ldexp(1, -800)},
		// The order of places is to be seen.
		{[]float64{1 << 53, 1, -1 << 53}, []float64{1, 1, 1}, 0},
		{[]float64{1 << 53, -1 << 53, 1}, []float64{1, 1, 1}, 1},
		{[]float64{1, 1 << 53, -1 << 53}, []float64{1, 1, 1}, 0},
		// No product is added without having been rounded.
		{[]float64{-1, 1 + little}, []float64{1, 1 - little}, 0},
		{[]float64{1 + little, 1}, []float64{1 + little, -1 - 2*little}, 0},
	} {
		if x, is := Dot(c.a, c.b); !is || !sameBits(x, c.want) {
			t.Errorf("Dot(%v, %v): %v, %v, not %v", c.a, c.b, x, is, c.want)
		}
	}
}

// shuffled is l with its entries at other places.
func shuffled(l []float64, seed drawer) []float64 {
	l = slices.Clone(l)
	for i := range l {
		j := int(seed.next() % uint64(i+1))
		l[i], l[j] = l[j], l[i]
	}
	return l
}

// P5.2: each product and each sum is rounded for itself.
func TestDotIsCountedOneByOne(t *testing.T) {
	for i, a := range lists(2) {
		for _, b := range [][]float64{a, shuffled(a, 5), shuffled(a, drawer(i+7))} {
			want := 0.0
			for j := range a {
				want = plus(want, times(a[j], b[j]))
			}
			if x, is := Dot(a, b); !is || !sameBits(x, want) {
				t.Errorf("Dot(%v, %v): %v, %v, not %v", a, b, x, is, want)
			}
		}
	}
}

// P5.2: wrong inputs
func TestDotRefuses(t *testing.T) {
	refused := func(a, b []float64) {
		t.Helper()
		if x, is := Dot(a, b); is || !sameBits(x, 0) {
			t.Errorf("Dot(%v, %v): %v, %v", a, b, x, is)
		}
		if x, is := Dot(b, a); is || !sameBits(x, 0) {
			t.Errorf("Dot(%v, %v): %v, %v", b, a, x, is)
		}
	}
	refused(nil, []float64{1})
	refused([]float64{}, []float64{0})
	refused([]float64{1, 2}, []float64{1, 2, 3})
	for _, x := range out() {
		for _, l := range spoilt([]float64{1, 0}, x) {
			refused(l, []float64{1, 2, 3})
			refused(l, []float64{0, 0, 0})
			refused(l, l)
			refused(l, nil)
		}
	}
}

// P5.2
func TestAxpy(t *testing.T) {
	for _, c := range []struct {
		k          float64
		a, b, want []float64
	}{
		{2, nil, nil, nil},
		{0, []float64{}, nil, nil},
		{2, []float64{1, 3}, []float64{5, -6}, []float64{7, 0}},
		{-1, []float64{1, 3}, []float64{5, -6}, []float64{4, -9}},
		{0, []float64{high, -high, 1}, []float64{1, low, minusZero}, []float64{1, low, 0}},
		{minusZero, []float64{1, -1, 1, -1}, []float64{minusZero, minusZero, 0, 0}, []float64{minusZero, 0, 0, 0}},
		{3, []float64{minusZero, 0}, []float64{minusZero, minusZero}, []float64{minusZero, 0}},
		{high, []float64{high, low}, []float64{high, -1}, []float64{math.Ldexp(1, 800), 0}},
		{low, []float64{low}, []float64{0}, []float64{math.Ldexp(1, -800)}},
		{1 - little, []float64{1 + little}, []float64{-1}, []float64{0}},
	} {
		l, is := Axpy(c.k, c.a, c.b)
		if !is || !slices.EqualFunc(l, c.want, sameBits) {
			t.Errorf("Axpy(%v, %v, %v): %v, %v, not %v", c.k, c.a, c.b, l, is, c.want)
		}
	}
}

// P5.2: each product and each sum is rounded for itself.
func TestAxpyIsCountedOneByOne(t *testing.T) {
	for i, a := range lists(3) {
		b := shuffled(a, drawer(i+1))
		for _, k := range []float64{0, minusZero, 1, -1, 0.1, -3, low, -high, math.Pi} {
			want := make([]float64, len(a))
			for j := range a {
				want[j] = plus(b[j], times(k, a[j]))
			}
			if l, is := Axpy(k, a, b); !is || !slices.EqualFunc(l, want, sameBits) {
				t.Errorf("Axpy(%v, %v, %v): %v, %v, not %v", k, a, b, l, is, want)
			}
		}
	}
}

// P5.2: wrong inputs
func TestAxpyRefuses(t *testing.T) {
	refused := func(k float64, a, b []float64) {
		t.Helper()
		if l, is := Axpy(k, a, b); is || len(l) != 0 {
			t.Errorf("Axpy(%v, %v, %v): %v, %v", k, a, b, l, is)
		}
	}
	refused(1, nil, []float64{1})
	refused(1, []float64{1}, nil)
	refused(0, []float64{1, 2, 3}, []float64{1, 2})
	for _, x := range out() {
		refused(x, nil, nil)
		refused(x, []float64{1, 2}, []float64{3, 4})
		refused(x, []float64{0}, []float64{0})
		for _, l := range spoilt([]float64{1, 0}, x) {
			refused(2, l, []float64{1, 2, 3})
			refused(2, []float64{1, 2, 3}, l)
			refused(0, l, []float64{1, 2, 3})
		}
	}
}

// P5.3
func TestSum(t *testing.T) {
	for _, c := range []struct {
		a    []float64
		want float64
	}{
		{nil, 0},
		{[]float64{minusZero}, 0},
		{[]float64{minusZero, 0}, 0},
		{[]float64{3, -4}, 7},
		{[]float64{-3, -4, minusZero}, 7},
		{[]float64{-high, high}, 2 * high},
		{[]float64{-low}, low},
		{[]float64{1, 1, -1 << 53}, 1<<53 + 2},
		{[]float64{-1 << 53, 1, 1}, 1 << 53},
	} {
		if x, is := Sum(c.a); !is || !sameBits(x, c.want) {
			t.Errorf("Sum(%v): %v, %v, not %v", c.a, x, is, c.want)
		}
	}
	for _, a := range lists(4) {
		want := 0.0
		for _, x := range a {
			want = plus(want, math.Abs(x))
		}
		if x, is := Sum(a); !is || !sameBits(x, want) {
			t.Errorf("Sum(%v): %v, %v, not %v", a, x, is, want)
		}
	}
}

// P5.4
func TestNorm(t *testing.T) {
	for _, c := range []struct {
		a    []float64
		want float64
	}{
		{nil, 0},
		{[]float64{0}, 0},
		{[]float64{minusZero, 0, minusZero}, 0},
		{[]float64{3, 4}, 5},
		{[]float64{-3, 0, 4, minusZero}, 5},
		{[]float64{-0.1}, 0.1},
		{[]float64{1, 1}, math.Sqrt2},
		{[]float64{high, -high, high, high}, 2 * high},
		{[]float64{0.75 * high, high}, 1.25 * high},
		{[]float64{-low}, low},
		{[]float64{3 * low, 4 * low}, 5 * low},
		{[]float64{low, low, low, -low}, 2 * low},
		{[]float64{low, -high}, high},
		{[]float64{low, 0, 1}, 1},
	} {
		if x, is := Norm(c.a); !is || !sameBits(x, c.want) {
			t.Errorf("Norm(%v): %v, %v, not %v", c.a, x, is, c.want)
		}
	}
}

// normByWords says P5.4 over again, without the machine's floats.
func normByWords(a []float64) float64 {
	k := -2000
	for _, x := range a {
		if x != 0 {
			_, exp := math.Frexp(x)
			k = max(k, exp-1)
		}
	}
	if k == -2000 {
		return 0
	}
	sum := 0.0
	for _, x := range a {
		y := times(x, math.Ldexp(1, -k))
		sum = plus(sum, times(y, y))
	}
	return times(root(sum), math.Ldexp(1, k))
}

// P5.4: each square, each sum and the root are rounded for themselves.
func TestNormIsCountedOneByOne(t *testing.T) {
	for _, a := range lists(5) {
		want := normByWords(a)
		if x, is := Norm(a); !is || !sameBits(x, want) {
			t.Errorf("Norm(%v): %v, %v, not %v", a, x, is, want)
		}
	}
}

// P5.3, P5.4: wrong inputs
func TestSumAndNormRefuse(t *testing.T) {
	for _, x := range out() {
		for _, l := range append(spoilt([]float64{1, 0, -3}, x), spoilt([]float64{0, 0}, x)...) {
			if y, is := Sum(l); is || !sameBits(y, 0) {
				t.Errorf("Sum(%v): %v, %v", l, y, is)
			}
			if y, is := Norm(l); is || !sameBits(y, 0) {
				t.Errorf("Norm(%v): %v, %v", l, y, is)
			}
		}
	}
}

// apart tells how far two dyads are from one another.
func apart(a, b api.Dyad) api.Dyad { return dyad.Abs(dyad.Sub(a, b)) }

func power(n, exp int) api.Dyad { return dyad.Norm(false, api.Nat{uint32(n)}, exp) }

// P5.5
func TestDotIsNearToTheSum(t *testing.T) {
	for i, a := range lists(6) {
		b := shuffled(a, drawer(i+3))
		exact, _ := dyad.Dot(a, b)
		var sizes api.Dyad
		for j := range a {
			sizes = dyad.Add(sizes, dyad.Abs(dyad.Mul(of(a[j]), of(b[j]))))
		}
		room := dyad.Add(dyad.Mul(power(len(a)+1, -53), sizes), power(len(a), -1074))
		if x, is := Dot(a, b); !is || dyad.Cmp(apart(of(x), exact), room) > 0 {
			t.Errorf("Dot(%v, %v): %v is too far", a, b, x)
		}
	}
}

// P5.5
func TestNormIsNearToTheRoot(t *testing.T) {
	for _, a := range lists(7) {
		exact, _ := dyad.Dot(a, a)
		x, is := Norm(a)
		square := dyad.Mul(of(x), of(x))
		if room := dyad.Mul(power(len(a)+4, -53), exact); !is || dyad.Cmp(apart(square, exact), room) > 0 {
			t.Errorf("Norm(%v): %v is too far", a, x)
		}
	}
}

// P5.5
func TestNoEntryIsAboveNormOrSum(t *testing.T) {
	all := lists(8)
	for seed := drawer(9); len(all) < 4000; {
		all = append(all, seed.list(1, 0, 400-1), seed.list(2, 0, 2))
	}
	for _, a := range all {
		norm, _ := Norm(a)
		sum, _ := Sum(a)
		for _, x := range a {
			if math.Abs(x) > norm || math.Abs(x) > sum {
				t.Errorf("%v: %v is above %v or %v", a, x, norm, sum)
			}
		}
	}
}

func scaled(l []float64, k int) []float64 {
	l = slices.Clone(l)
	for i := range l {
		l[i] = math.Ldexp(l[i], k)
	}
	return l
}

// P5.5
func TestWhatIsScaledComesToWhatIsScaled(t *testing.T) {
	seed := drawer(11)
	for n := range 20 {
		a, b := seed.list(n, 0, 100), seed.list(n, 0, 100)
		dot, _ := Dot(a, b)
		norm, _ := Norm(a)
		sum, _ := Sum(a)
		for _, k := range []int{-299, -100, -1, 1, 2, 77, 299} {
			c := scaled(a, k)
			if x, is := Dot(c, b); !is || !sameBits(x, math.Ldexp(dot, k)) {
				t.Errorf("Dot(%v, %v): %v, %v", c, b, x, is)
			}
			if x, is := Norm(c); !is || !sameBits(x, math.Ldexp(norm, k)) {
				t.Errorf("Norm(%v): %v, %v", c, x, is)
			}
			if x, is := Sum(c); !is || !sameBits(x, math.Ldexp(sum, k)) {
				t.Errorf("Sum(%v): %v, %v", c, x, is)
			}
			l, _ := Axpy(3, a, b)
			if m, is := Axpy(3, c, scaled(b, k)); !is || !slices.EqualFunc(m, scaled(l, k), sameBits) {
				t.Errorf("Axpy(3, %v, %v): %v, %v", c, scaled(b, k), m, is)
			}
		}
	}
}

// R5: what is handed in stays, and what is answered is memory of its own.
func TestNothingIsChangedOrShared(t *testing.T) {
	for i, a := range lists(12) {
		b := shuffled(a, drawer(i+2))
		keptA, keptB := slices.Clone(a), slices.Clone(b)
		All(a)
		Dot(a, b)
		Sum(a)
		Norm(a)
		l, _ := Axpy(1, a, b)
		for j := range l {
			l[j] = 77
		}
		if !slices.EqualFunc(a, keptA, sameBits) || !slices.EqualFunc(b, keptB, sameBits) {
			t.Fatalf("%v or %v was changed", keptA, keptB)
		}
	}
}

// R5, R6: no sum goes on from one call to the next.
func TestEachCallCountsFromZeroOn(t *testing.T) {
	a, b := []float64{0.1, 0.2, 0.7}, []float64{3, -5, 9}
	dot, _ := Dot(a, b)
	sum, _ := Sum(a)
	norm, _ := Norm(a)
	for range 3 {
		x, _ := Dot(a, b)
		y, _ := Sum(a)
		z, _ := Norm(a)
		if !sameBits(x, dot) || !sameBits(y, sum) || !sameBits(z, norm) {
			t.Errorf("%v, %v, %v, not %v, %v, %v", x, y, z, dot, sum, norm)
		}
	}
}
