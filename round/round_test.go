package round

import (
	"math"
	"math/big"
	"slices"
	"testing"

	"levelling/api"
	"levelling/dyad"
)

const (
	all      = 1<<32 - 1
	least    = math.SmallestNonzeroFloat64
	greatest = math.MaxFloat64
)

func sameBits(a, b float64) bool { return math.Float64bits(a) == math.Float64bits(b) }

func one(neg bool, exp int, n ...uint32) api.Dyad { return dyad.Norm(neg, n, exp) }

func of(x float64) api.Dyad {
	d, is := dyad.From(x)
	if !is {
		panic("no number")
	}
	return d
}

// value is the number that d counts as, by the library's numbers.
func value(d api.Dyad) *big.Rat {
	v := new(big.Rat)
	if !dyad.Check(d) {
		return v
	}
	n := new(big.Int)
	for _, x := range slices.Backward(d.N) {
		n.Lsh(n, 32).Or(n, big.NewInt(int64(x)))
	}
	if d.Neg {
		n.Neg(n)
	}
	if d.Exp >= 0 {
		return v.SetInt(n.Lsh(n, uint(d.Exp)))
	}
	return v.SetFrac(n, new(big.Int).Lsh(big.NewInt(1), uint(-d.Exp)))
}

// float64Of is the float of v, by the library's numbers.
func float64Of(v *big.Rat) float64 {
	x, _ := v.Float64()
	return x
}

// wrong has dyads that may not be: they are taken as 0.
func wrong() []api.Dyad {
	return []api.Dyad{{Neg: true}, {Exp: 1}, {N: api.Nat{2}}, {Neg: true, N: api.Nat{4}}, {N: api.Nat{1, 0}}, {Neg: true, N: api.Nat{0}}, {N: api.Nat{1}, Exp: 20001}, {Neg: true, N: api.Nat{1}, Exp: -20001}, {N: api.Nat{1}, Exp: math.MaxInt}, {N: api.Nat{1}, Exp: math.MinInt}}
}

// hard has numbers around floats and the middles between them, at all exponents where something changes.
func hard() []api.Dyad {
	var l []api.Dyad
	for _, top := range []int{-19900, -1200, -1101, -1100, -1099, -1080, -1077, -1076, -1075, -1074, -1073, -1050, -1023, -1022, -1021, -54, -1, 0, 1, 2, 53, 500, 969, 970, 971, 1022, 1023, 1024, 1025, 1099, 1100, 1101, 19000} {
		for _, n := range []uint64{1, 3, 5, 7, 1<<52 + 1, 1<<53 - 1, 1<<53 + 1, 1<<53 + 3, 1<<54 - 3, 1<<54 - 1, 1<<54 + 1, 1<<54 + 2, 1<<54 + 3, 1<<54 + 5, 1<<54 + 6, 1<<54 + 7, 1<<55 - 1, 0x5555555555555555, 1<<63 + 1, 1<<64 - 1} {
			size := new(big.Int).SetUint64(n).BitLen()
			l = append(l, one(n%4 == 1, top-size+1, uint32(n), uint32(n>>32)))
		}
	}
	return l
}

// nearMiddles has what is a little above and below a middle between two floats, by a bit far down.
func nearMiddles() []api.Dyad {
	var l []api.Dyad
	for _, exp := range []int{-1074, -1073, -500, 0, 900, 970} {
		for _, n := range []uint64{0, 1, 2, 3, 1<<52 - 1, 1 << 52, 1<<52 + 1, 1<<53 - 2, 1<<53 - 1} {
			middle := dyad.Norm(false, api.Nat{uint32(2*n + 1), uint32((2*n + 1) >> 32)}, exp-1)
			for _, down := range []int{1, 12, 70, 1000, 15000} {
				bit := one(false, exp-1-down, 1)
				l = append(l, middle, dyad.Add(middle, bit), dyad.Sub(middle, bit))
			}
		}
	}
	return l
}

// P4.1
func TestFloat(t *testing.T) {
	for _, c := range []struct {
		d    api.Dyad
		want float64
	}{
		{api.Dyad{}, 0},
		{one(false, 0, 1, 1<<21), 1 << 53},
		{one(false, 0, 3, 1<<21), 1<<53 + 4},
		{one(true, 0, 3, 1<<21), -1<<53 - 4},
		{one(false, -1074, 1), least},
		{one(true, -1074, 1), -least},
		{one(false, -1075, 1), 0},
		{one(true, -1075, 1), math.Copysign(0, -1)},
		{one(true, -1076, 3), -least},
		{one(true, -20000, 1), math.Copysign(0, -1)},
		{one(false, -20000, 1), 0},
		{one(false, 1023, 1), math.Ldexp(1, 1023)},
		{one(false, 1024, 1), math.Inf(1)},
		{one(true, 20000, 1), math.Inf(-1)},
		{dyad.Sub(one(false, 1024, 1), one(false, 970, 1)), math.Inf(1)},
		{dyad.Sub(one(true, 1024, 1), one(true, 970, 1)), math.Inf(-1)},
		{dyad.Sub(dyad.Sub(one(false, 1024, 1), one(false, 970, 1)), one(false, -20000, 1)), greatest},
		{dyad.Sub(one(false, 1024, 1), one(false, 971, 1)), greatest},
		{api.Dyad{N: slices.Repeat(api.Nat{all}, 5000), Exp: -20000}, math.Inf(1)},
		{api.Dyad{N: slices.Repeat(api.Nat{all}, 625), Exp: -20000}, 1},
	} {
		if x := Float(c.d); !sameBits(x, c.want) {
			t.Errorf("Float(%v): %v, not %v", c.d, x, c.want)
		}
	}
	for _, d := range append(hard(), nearMiddles()...) {
		for _, d := range []api.Dyad{d, dyad.Neg(d)} {
			if x := Float(d); !sameBits(x, float64Of(value(d))) {
				t.Errorf("Float(%v): %v, not %v", d, x, float64Of(value(d)))
			}
		}
	}
	for _, d := range wrong() {
		if x := Float(d); !sameBits(x, 0) {
			t.Errorf("Float(%v): %v", d, x)
		}
	}
}

// P4.1: what is a float comes to itself.
func TestFloatOfFloats(t *testing.T) {
	for _, x := range someFloats() {
		if y := Float(of(x)); y != x || x != 0 && !sameBits(x, y) || x == 0 && math.Signbit(y) {
			t.Errorf("Float of %v: %v", x, y)
		}
	}
}

// P4.2
func TestQuo(t *testing.T) {
	if x, is := Quo(one(false, 0, 1), one(false, 0, 3)); !is || x != math.Ldexp(6004799503160661, -54) {
		t.Errorf("1 divided by 3: %v, %v", x, is)
	}
	l := hard()
	for i, a := range l {
		for j := i % 7; j < len(l); j += 7 {
			b := l[j]
			want := float64Of(new(big.Rat).Quo(value(a), value(b)))
			if x, is := Quo(a, b); !is || !sameBits(x, want) {
				t.Errorf("Quo(%v, %v): %v, %v, not %v", a, b, x, is, want)
			}
		}
	}
}

// P4.2: the middles between floats, and what is a little beside them, as quotients.
func TestQuoOfMiddles(t *testing.T) {
	for _, b := range []api.Dyad{one(false, 0, 1), one(true, 0, 3), one(false, -900, 0x10001, 77), one(true, 40, all, all, all)} {
		for _, d := range nearMiddles() {
			a := dyad.Mul(d, b)
			want := Float(d)
			if x, is := Quo(a, b); !is || !sameBits(x, want) {
				t.Errorf("Quo(%v, %v): %v, %v, not %v", a, b, x, is, want)
			}
		}
	}
}

// P4.2
func TestQuoEdges(t *testing.T) {
	long := api.Dyad{N: slices.Repeat(api.Nat{all}, 8000)} // of more bits than nat shifts by
	zero := math.Copysign(0, -1)
	for _, c := range []struct {
		a, b api.Dyad
		want float64
	}{
		{api.Dyad{}, one(true, 0, 3), 0},
		{api.Dyad{}, one(false, -20000, 1), 0},
		{api.Dyad{}, one(true, 20000, 1), 0},
		{one(true, -20000, 1), one(false, 20000, 1), zero},
		{one(true, 20000, 1), one(true, -20000, 1), math.Inf(1)},
		{one(true, 20000, 1), one(false, -20000, 1), math.Inf(-1)},
		{one(true, 20000, 1), one(false, 20000, 1), -1},
		{one(false, -20000, 3), one(true, -20000, 1), -3},
		{long, long, 1},
		{long, one(false, 0, 1), math.Inf(1)},
		{one(false, 0, 1), long, 0},
		{one(true, 0, 1), long, zero},
		{one(true, 0, 1), api.Dyad{N: slices.Repeat(api.Nat{all}, 3124)}, zero},
		{dyad.Mul(long, one(true, -2, 3)), long, -0.75},
		{one(false, -1074, 1), one(false, 1, 1), 0},
		{one(true, -1074, 1), one(false, 1, 1), zero},
		{one(false, -1074, 3), one(false, 2, 1), least},
	} {
		if x, is := Quo(c.a, c.b); !is || !sameBits(x, c.want) {
			t.Errorf("Quo: %v, %v, not %v", x, is, c.want)
		}
	}
	for _, d := range append(wrong(), api.Dyad{}) {
		if x, is := Quo(one(true, 0, 3), d); is || !sameBits(x, 0) {
			t.Errorf("Quo(-3, %v): %v, %v", d, x, is)
		}
		if x, is := Quo(d, d); is || !sameBits(x, 0) {
			t.Errorf("Quo(%v, itself): %v, %v", d, x, is)
		}
		if x, is := Quo(d, one(true, 0, 3)); !is || !sameBits(x, 0) {
			t.Errorf("Quo(%v, -3): %v, %v", d, x, is)
		}
	}
}

// isRoot tells whether x is the float of d's root, by the squares of the middles around it.
func isRoot(x float64, d *big.Rat) bool {
	if x < 0 || math.Signbit(x) {
		return false
	}
	even := math.Float64bits(x)%2 == 0
	// Beyond the greatest float the next one would be 2^1024.
	above := new(big.Rat).SetInt(new(big.Int).Lsh(big.NewInt(1), 1024))
	if math.IsInf(x, 1) {
		low := new(big.Rat).Add(above, new(big.Rat).SetFloat64(greatest))
		low.Mul(low, big.NewRat(1, 2))
		return d.Cmp(low.Mul(low, low)) >= 0
	}
	if x != greatest {
		above.SetFloat64(math.Nextafter(x, math.Inf(1)))
	}
	exact := new(big.Rat).SetFloat64(x)
	high := new(big.Rat).Mul(above.Add(above, exact), big.NewRat(1, 2))
	if c := d.Cmp(high.Mul(high, high)); c > 0 || c == 0 && !even {
		return false
	}
	if x == 0 {
		return true
	}
	low := exact.Add(exact, new(big.Rat).SetFloat64(math.Nextafter(x, 0)))
	low.Mul(low, big.NewRat(1, 2))
	c := d.Cmp(low.Mul(low, low))
	return c > 0 || c == 0 && even
}

// P4.2
func TestRoot(t *testing.T) {
	for _, d := range append(hard(), nearMiddles()...) {
		d = dyad.Abs(d)
		if x, is := Root(d); !is || !isRoot(x, value(d)) {
			t.Errorf("Root(%v): %v, %v", d, x, is)
		}
		if x, is := Root(dyad.Neg(d)); is || !sameBits(x, 0) {
			t.Errorf("Root of -%v: %v, %v", d, x, is)
		}
	}
	for _, d := range wrong() {
		if x, is := Root(d); !is || !sameBits(x, 0) {
			t.Errorf("Root(%v): %v, %v", d, x, is)
		}
	}
}

// P4.2: roots that are floats, middles between them, and a little beside.
func TestRootOfSquares(t *testing.T) {
	for _, d := range append(hard(), nearMiddles()...) {
		d = dyad.Abs(d)
		square := dyad.Mul(d, d)
		if len(square.N) == 0 {
			continue
		}
		if x, is := Root(square); !is || !sameBits(x, Float(d)) {
			t.Errorf("root of the square of %v: %v, %v, not %v", d, x, is, Float(d))
		}
		bit := one(false, square.Exp-200, 1)
		for _, beside := range []api.Dyad{dyad.Add(square, bit), dyad.Sub(square, bit)} {
			if x, is := Root(beside); !beside.Neg && (!is || !isRoot(x, value(beside))) {
				t.Errorf("root a little beside the square of %v: %v, %v", d, x, is)
			}
		}
	}
}

// P4.2
func TestRootEdges(t *testing.T) {
	for _, c := range []struct {
		d    api.Dyad
		want float64
	}{
		{api.Dyad{}, 0},
		{one(false, 0, 9), 3},
		{one(false, -1, 1), math.Sqrt(0.5)},
		{one(false, -2148, 1), least},
		{one(false, -2150, 1), 0},
		{dyad.Add(one(false, -2150, 1), one(false, -20000, 1)), least},
		{one(false, -20000, 1), 0},
		{one(false, 2048, 1), math.Inf(1)},
		{one(false, 20000, 1), math.Inf(1)},
		{api.Dyad{N: slices.Repeat(api.Nat{all}, 8000), Exp: -20000}, math.Inf(1)},
		{api.Dyad{N: slices.Repeat(api.Nat{all}, 626), Exp: -20000}, 1 << 16},
	} {
		if x, is := Root(c.d); !is || !sameBits(x, c.want) {
			t.Errorf("Root(%v): %v, %v, not %v", c.d, x, is, c.want)
		}
	}
}

// within says P4.3 over again, by the library's numbers.
func within(x float64, d api.Dyad, k int) bool {
	if math.IsNaN(x) || math.IsInf(x, 0) || k < 0 || k > 1000000 {
		return false
	}
	v := value(d)
	apart := new(big.Rat).Sub(new(big.Rat).SetFloat64(x), v)
	room := new(big.Rat).Mul(v.Abs(v), big.NewRat(int64(k), 1<<53))
	return apart.Abs(apart).Cmp(room.Add(room, value(one(false, -1075, 1)))) <= 0
}

// P4.3
func TestWithin(t *testing.T) {
	for _, d := range append(append(hard(), wrong()...), api.Dyad{}) {
		x := Float(d)
		for _, x := range []float64{x, -x, math.Nextafter(x, 0), math.Nextafter(x, math.Inf(1)), x * (1 + 0x1p-50), x * (1 - 0x1p-34), 0, math.Inf(1), math.NaN()} {
			for _, k := range []int{math.MinInt, -1, 0, 1, 2, 3, 8, 9, 524288, 1000000, 1000001, math.MaxInt} {
				if got := Within(x, d, k); got != within(x, d, k) {
					t.Errorf("Within(%v, %v, %d): %v", x, d, k, got)
				}
			}
		}
	}
}

// P4.3: the bound itself is within, and a little more is not.
func TestWithinAtTheBound(t *testing.T) {
	more := one(false, -1075, 1)
	for _, k := range []int{0, 1, 2, 7, 1000, 1000000} {
		for _, d := range []api.Dyad{one(false, 0, 1), one(true, 0, 1), one(false, -60, all, all), one(true, 900, 5)} {
			// Such an x that the bound is met just so: d moved by it, and the float taken as the number.
			room := dyad.Add(dyad.Mul(dyad.Norm(false, api.Nat{uint32(k)}, -53), dyad.Abs(d)), more)
			for _, x := range []float64{0, 1, -1, Float(d)} {
				at := dyad.Abs(dyad.Sub(of(x), d))
				if got := Within(x, d, k); got != (dyad.Cmp(at, room) <= 0) {
					t.Errorf("Within(%v, %v, %d): %v", x, d, k, got)
				}
			}
		}
	}
	for _, c := range []struct {
		x    float64
		d    api.Dyad
		k    int
		want bool
	}{
		{0, more, 0, true},
		{0, dyad.Neg(more), 0, true},
		{0, dyad.Add(more, one(false, -20000, 1)), 0, false},
		{least, more, 0, true},
		{1, dyad.Add(one(false, 0, 1), more), 0, true},
		{1, dyad.Sub(dyad.Sub(one(false, 0, 1), more), one(false, -5000, 1)), 0, false},
		{1 + 0x1p-52, one(false, 0, 1), 2, true},
		{1 + 0x1p-52, one(false, 0, 1), 1, false},
		{1 - 0x1p-53, one(false, 0, 1), 1, true},
		{0, one(false, -1074, 1), 1000000, false},
		{math.Copysign(0, -1), api.Dyad{}, 0, true},
		{least, api.Dyad{}, 1000000, false},
		{greatest, of(greatest), 0, true},
		{greatest, one(false, 1024, 1), 1, true},
		{greatest, one(false, 1024, 1), 0, false},
	} {
		if got := Within(c.x, c.d, c.k); got != c.want {
			t.Errorf("Within(%v, %v, %d): %v", c.x, c.d, c.k, got)
		}
	}
}

// P4.3: distances and bounds that no dyad may be.
func TestWithinBeyondTheExponents(t *testing.T) {
	ones := func(k int) api.Dyad { return dyad.Sub(one(false, k, 1), one(false, 0, 1)) } // 2^k - 1
	if Within(-1, dyad.Add(ones(20000), one(false, 20000, 1)), 1000000) {
		t.Error("-1 is within of 2^20001 - 1")
	}
	fine := dyad.Add(one(false, 0, 1), one(false, -20000, 1))
	if !Within(1+0x1p-52, fine, 2) || Within(1+0x1p-52, fine, 1) {
		t.Error("the bound of 1 + 2^-20000 is lost")
	}
	if Within(1, one(false, 20000, 1), 1000000) || Within(0, one(false, 20000, 1), 1000000) {
		t.Error("1 or 0 is within of 2^20000")
	}
	if !Within(0, one(true, -20000, 1), 0) {
		t.Error("0 is not within of -2^-20000")
	}
}

// someFloats goes through exponents, with the fractions at their edges, and both signs.
func someFloats() []float64 {
	l := []float64{0, math.Copysign(0, -1), 1, -1, 3, 0.1, 1e300, -1e-300, greatest, -greatest, least, -least}
	for _, field := range []uint64{0, 1, 2, 40, 52, 53, 54, 480, 511, 512, 970, 1022, 1023, 1024, 1025, 1075, 1076, 1077, 1534, 1535, 1536, 1990, 2044, 2045, 2046} {
		for _, frac := range []uint64{0, 1, 1<<51 - 1, 1 << 51, 0x5555555555555, 0xdeadbeefcafe, 1<<52 - 1} {
			b := field<<52 | frac
			l = append(l, math.Float64frombits(b), math.Float64frombits(b|1<<63))
		}
	}
	return l
}

// alike tells whether two floats are the same, but for the sign of a zero.
func alike(a, b float64) bool { return sameBits(a, b) || a == 0 && b == 0 }

// P4.4
func TestGoCountsTheSame(t *testing.T) {
	l := someFloats()
	for i, x := range l {
		a := of(x)
		if x >= 0 {
			if r, is := Root(a); !is || !alike(r, math.Sqrt(x)) {
				t.Errorf("root of %v: %v, %v", x, r, is)
			}
		}
		for j := i % 3; j < len(l); j += 3 {
			y := l[j]
			b := of(y)
			if s := Float(dyad.Add(a, b)); !alike(s, x+y) {
				t.Errorf("%v + %v: %v", x, y, s)
			}
			if s := Float(dyad.Sub(a, b)); !alike(s, x-y) {
				t.Errorf("%v - %v: %v", x, y, s)
			}
			if p := Float(dyad.Mul(a, b)); !alike(p, x*y) {
				t.Errorf("%v * %v: %v", x, y, p)
			}
			if q, is := Quo(a, b); is != (y != 0) || is && !alike(q, x/y) {
				t.Errorf("%v / %v: %v, %v", x, y, q, is)
			}
		}
	}
}

// R5
func TestNothingIsChanged(t *testing.T) {
	for _, d := range append(hard(), wrong()...) {
		kept := slices.Clone(d.N)
		Float(d)
		Quo(d, d)
		Root(d)
		Within(1, d, 3)
		if !slices.Equal(d.N, kept) {
			t.Fatalf("%v was changed", d)
		}
	}
}
