package dyad

import (
	"math"
	"math/big"
	"slices"
	"testing"

	"levelling/api"
)

const all = 1<<32 - 1

func same(a, b api.Dyad) bool { return a.Neg == b.Neg && a.Exp == b.Exp && slices.Equal(a.N, b.N) }

func isZero(d api.Dyad) bool { return !d.Neg && len(d.N) == 0 && d.Exp == 0 }

func toBig(n api.Nat) *big.Int {
	var l []byte
	for _, x := range slices.Backward(n) {
		l = append(l, byte(x>>24), byte(x>>16), byte(x>>8), byte(x))
	}
	return new(big.Int).SetBytes(l)
}

func fromBig(b *big.Int) api.Nat {
	l := b.Bytes()
	slices.Reverse(l)
	n := make(api.Nat, (len(l)+3)/4)
	for i, x := range l {
		n[i/4] |= uint32(x) << (i % 4 * 8)
	}
	return n
}

// num is a number by the library's: n times 2 to the power of exp.
type num struct {
	n   *big.Int
	exp int
}

func (x num) at(exp int) *big.Int { return new(big.Int).Lsh(x.n, uint(x.exp-exp)) }

func (x num) neg() num { return num{new(big.Int).Neg(x.n), x.exp} }

func (x num) abs() num { return num{new(big.Int).Abs(x.n), x.exp} }

func (x num) add(y num) num {
	exp := min(x.exp, y.exp)
	return num{new(big.Int).Add(x.at(exp), y.at(exp)), exp}
}

func (x num) mul(y num) num { return num{new(big.Int).Mul(x.n, y.n), x.exp + y.exp} }

func (x num) cmp(y num) int { return x.add(y.neg()).n.Sign() }

// numOf is x as a number.
func numOf(x float64) num {
	mant, exp := math.Frexp(x)
	return num{big.NewInt(int64(mant * (1 << 53))), exp - 53}
}

// may says over again, from the document's words, whether d may be.
func may(d api.Dyad) bool {
	if len(d.N) > 0 && d.N[len(d.N)-1] == 0 || d.Exp < -20000 || d.Exp > 20000 {
		return false
	}
	return toBig(d.N).Bit(0) == 1 || !d.Neg && len(d.N) == 0 && d.Exp == 0
}

// value is the number that d counts as.
func value(d api.Dyad) num {
	if !may(d) {
		return num{new(big.Int), 0}
	}
	v := num{toBig(d.N), d.Exp}
	if d.Neg {
		return v.neg()
	}
	return v
}

// dyadOf is the dyad of a number: the zero one, if none may be.
func dyadOf(v num) api.Dyad {
	zeros := v.n.TrailingZeroBits()
	d := api.Dyad{Neg: v.n.Sign() < 0, N: fromBig(new(big.Int).Rsh(v.abs().n, zeros)), Exp: v.exp + int(zeros)}
	if v.n.Sign() == 0 || !may(d) {
		return api.Dyad{}
	}
	return d
}

func one(neg bool, exp int, n ...uint32) api.Dyad { return api.Dyad{Neg: neg, N: n, Exp: exp} }

// wrong has dyads that may not be, of each kind.
func wrong() []api.Dyad {
	return []api.Dyad{
		{Neg: true}, {Exp: 1}, {Exp: -1}, {N: api.Nat{0}}, {Neg: true, N: api.Nat{0, 0}},
		one(false, 0, 2), one(true, 3, 6, 1), one(false, 0, 1, 0), one(false, 0, 0, 1), one(true, 0, 3, 5, 0),
		one(false, 20001, 1), one(false, -20001, 1), one(true, math.MaxInt, 3), one(true, math.MinInt, 3), {Exp: math.MaxInt}, {Exp: math.MinInt},
	}
}

// right has dyads that may be: 0, the edges of digits and of exponents, both signs.
func right() []api.Dyad {
	l := []api.Dyad{{}, {N: api.Nat{}}}
	for _, neg := range []bool{false, true} {
		for _, exp := range []int{-20000, -19999, -1074, -33, -1, 0, 1, 2, 31, 32, 64, 19999, 20000} {
			l = append(l, one(neg, exp, 1), one(neg, exp, 3), one(neg, exp, all), one(neg, exp, 1, 1), one(neg, exp, all, all), one(neg, exp, 1, 0, 1<<31))
		}
		l = append(l, one(neg, 7, 0xdeadbeef, 0, 5, 0x12345678), one(neg, -20000, slices.Repeat([]uint32{all}, 1300)...))
	}
	return l
}

func pool() []api.Dyad { return append(right(), wrong()...) }

// P3.1
func TestCheck(t *testing.T) {
	for _, d := range right() {
		if !Check(d) {
			t.Errorf("Check(%v): false", d)
		}
	}
	for _, d := range wrong() {
		if Check(d) {
			t.Errorf("Check(%v): true", d)
		}
	}
}

// P3.1
func TestNorm(t *testing.T) {
	for _, c := range []struct {
		neg  bool
		n    api.Nat
		exp  int
		want api.Dyad
	}{
		{false, api.Nat{3}, -2, one(false, -2, 3)},
		{true, api.Nat{12}, -2, one(true, 0, 3)},
		{true, api.Nat{0, 0, 1 << 31}, 5, one(true, 100, 1)},
		{false, api.Nat{0, 8, 1, 0, 0}, -3, one(false, 32, 1<<29|1)},
		{true, nil, 0, api.Dyad{}},
		{true, api.Nat{}, 7, api.Dyad{}},
		{true, api.Nat{0, 0}, -7, api.Dyad{}},
		{false, nil, math.MaxInt, api.Dyad{}},
		{false, nil, math.MinInt, api.Dyad{}},
		{false, api.Nat{1}, 20000, one(false, 20000, 1)},
		{false, api.Nat{1}, 20001, api.Dyad{}},
		{false, api.Nat{4}, 19998, one(false, 20000, 1)},
		{false, api.Nat{4}, 19999, api.Dyad{}},
		{false, api.Nat{1}, -20000, one(false, -20000, 1)},
		{false, api.Nat{1}, -20001, api.Dyad{}},
		{true, api.Nat{0, 3}, -20032, one(true, -20000, 3)},
		{true, api.Nat{0, 3}, -20033, api.Dyad{}},
		{true, api.Nat{2}, math.MaxInt, api.Dyad{}},
		{true, api.Nat{2}, math.MaxInt - 1, api.Dyad{}},
		{true, api.Nat{1 << 31}, math.MinInt, api.Dyad{}},
		{true, api.Nat{1 << 31}, math.MinInt + 31, api.Dyad{}},
	} {
		if d := Norm(c.neg, c.n, c.exp); !same(d, c.want) {
			t.Errorf("Norm(%v, %v, %d): %v", c.neg, c.n, c.exp, d)
		}
	}
}

// P3.1: more zeros than nat shifts by.
func TestNormOfManyZeros(t *testing.T) {
	for _, zeros := range []int{99999, 100000, 100001, 131072, 200003} {
		n := fromBig(new(big.Int).Lsh(big.NewInt(5), uint(zeros)))
		for _, exp := range []int{-20000, -1, 0, 20000} {
			if d := Norm(true, n, exp-zeros); !same(d, one(true, exp, 5)) {
				t.Errorf("5 times 2^%d, %d: %v", zeros, exp-zeros, d)
			}
		}
		for _, exp := range []int{-20001 - zeros, 20001 - zeros, 0} {
			if d := Norm(true, n, exp); !isZero(d) {
				t.Errorf("5 times 2^%d, %d: %v", zeros, exp, d)
			}
		}
	}
}

// P3.1: of each number there is one dyad, whatever digits it is handed in as.
func TestNormIsOne(t *testing.T) {
	for _, d := range right() {
		if got := Norm(d.Neg, d.N, d.Exp); !same(got, d) {
			t.Errorf("Norm of %v: %v", d, got)
		}
		if len(d.N) == 0 {
			continue
		}
		for _, k := range []int{1, 31, 32, 33, 70} {
			n := append(fromBig(new(big.Int).Lsh(toBig(d.N), uint(k))), 0, 0)
			if got := Norm(d.Neg, n, d.Exp-k); !same(got, d) {
				t.Errorf("Norm of %v, shifted by %d: %v", d, k, got)
			}
		}
	}
}

// someFloats goes through exponents, with the fractions at their edges, and both signs.
func someFloats() []float64 {
	var l []float64
	for field := uint64(0); field < 1<<11-1; field += 89 {
		for _, frac := range []uint64{0, 1, 1 << 31, 1 << 32, 1<<51 - 1, 1 << 51, 0x5555555555555, 1<<52 - 1} {
			b := field<<52 | frac
			l = append(l, math.Float64frombits(b), math.Float64frombits(b|1<<63))
		}
	}
	return append(l, 0, math.Copysign(0, -1), 1, -1, 0.1, 1e300, -1e300, math.MaxFloat64, -math.MaxFloat64, math.SmallestNonzeroFloat64)
}

func noNumbers() []float64 {
	return []float64{math.Inf(1), math.Inf(-1), math.NaN(), math.Float64frombits(0xfff0000000000001)}
}

// P3.1
func TestFrom(t *testing.T) {
	if d, is := From(0.75); !is || !same(d, one(false, -2, 3)) {
		t.Errorf("From(0.75): %v, %v", d, is)
	}
	for _, x := range someFloats() {
		d, is := From(x)
		if !is || !same(d, dyadOf(numOf(x))) {
			t.Errorf("From(%v): %v, %v", x, d, is)
		}
	}
	for _, x := range noNumbers() {
		if d, is := From(x); is || !isZero(d) {
			t.Errorf("From(%v): %v, %v", x, d, is)
		}
	}
}

// P3.2
func TestNegAndAbs(t *testing.T) {
	for _, d := range pool() {
		if got := Neg(d); !same(got, dyadOf(value(d).neg())) {
			t.Errorf("Neg(%v): %v", d, got)
		}
		if got := Abs(d); !same(got, dyadOf(value(d).abs())) {
			t.Errorf("Abs(%v): %v", d, got)
		}
	}
}

// P3.2, P3.4
func TestAddSubMulCmp(t *testing.T) {
	l := pool()
	var values []num
	for _, d := range l {
		values = append(values, value(d))
	}
	for i, a := range l {
		for j := i; j < len(l); j++ {
			b, x, y := l[j], values[i], values[j]
			sum, less, product := dyadOf(x.add(y)), x.add(y.neg()), dyadOf(x.mul(y))
			if !same(Add(a, b), sum) || !same(Add(b, a), sum) {
				t.Errorf("Add(%v, %v): %v", a, b, Add(a, b))
			}
			if !same(Mul(a, b), product) || !same(Mul(b, a), product) {
				t.Errorf("Mul(%v, %v): %v", a, b, Mul(a, b))
			}
			if !same(Sub(a, b), dyadOf(less)) || !same(Sub(b, a), dyadOf(less.neg())) {
				t.Errorf("Sub(%v, %v): %v", a, b, Sub(a, b))
			}
			if Cmp(a, b) != x.cmp(y) || Cmp(b, a) != y.cmp(x) {
				t.Errorf("Cmp(%v, %v): %d, %d", a, b, Cmp(a, b), Cmp(b, a))
			}
		}
	}
}

// P3.2: where no dyad may be, the zero one is; but what is greater stays greater.
func TestBeyondTheExponents(t *testing.T) {
	high, low := one(false, 20000, 1), one(false, -20000, 3)
	for i, d := range []api.Dyad{Add(high, high), Sub(high, Neg(high)), Add(one(false, 20000, 3), high), Mul(high, one(false, 1, 1)), Mul(high, high), Mul(low, low), Mul(low, one(true, -1, 1)), Add(one(false, 0, slices.Repeat([]uint32{all}, 700)...), one(false, 0, 1))} {
		if !isZero(d) {
			t.Errorf("case %d: %v", i, d)
		}
	}
	if Cmp(high, Neg(high)) != 1 || Cmp(Neg(high), high) != -1 || Cmp(Neg(high), low) != -1 || Cmp(Neg(low), Neg(high)) != 1 {
		t.Error("Cmp is wrong where a difference is no dyad")
	}
	if d := Sub(Add(high, low), high); !same(d, low) {
		t.Errorf("high and low, less high: %v", d)
	}
	if d := Mul(high, low); !same(d, one(false, 0, 3)) {
		t.Errorf("high times low: %v", d)
	}
}

// P3.3
func TestSum(t *testing.T) {
	for _, c := range []struct {
		l    []float64
		want float64
	}{{nil, 0}, {[]float64{}, 0}, {[]float64{-2.5}, -2.5}, {[]float64{1e300, 1, -1e300, 0.5}, 1.5}, {[]float64{0.1, -0.1, math.Copysign(0, -1)}, 0}, {[]float64{-1, -2, 1, -0.25}, -2.25}} {
		want, _ := From(c.want)
		if d, is := Sum(c.l); !is || !same(d, want) {
			t.Errorf("Sum(%v): %v, %v", c.l, d, is)
		}
	}
	want := num{new(big.Int), 0}
	l := someFloats()
	for i, x := range l {
		want = want.add(numOf(x))
		if d, is := Sum(l[:i+1]); !is || !same(d, dyadOf(want)) {
			t.Fatalf("Sum of the first %d: %v, %v", i+1, d, is)
		}
	}
	great := slices.Repeat([]float64{math.MaxFloat64}, 5)
	if d, is := Sum(great); !is || !same(d, dyadOf(num{big.NewInt(5), 0}.mul(numOf(math.MaxFloat64)))) {
		t.Errorf("five times the greatest: %v, %v", d, is)
	}
}

// P3.3
func TestDot(t *testing.T) {
	for _, c := range []struct {
		a, b []float64
		want float64
	}{{nil, nil, 0}, {nil, []float64{}, 0}, {[]float64{3}, []float64{-0.5}, -1.5}, {[]float64{1, 2, 3}, []float64{4, 5, 6}, 32}, {[]float64{1e200, 2, -1e200}, []float64{1e200, 3, 1e200}, 6}} {
		want, _ := From(c.want)
		if d, is := Dot(c.a, c.b); !is || !same(d, want) {
			t.Errorf("Dot(%v, %v): %v, %v", c.a, c.b, d, is)
		}
	}
	l := someFloats()
	other := slices.Clone(l)
	slices.Reverse(other)
	want := num{new(big.Int), 0}
	for i, x := range l {
		want = want.add(numOf(x).mul(numOf(other[i])))
		if d, is := Dot(l[:i+1], other[:i+1]); !is || !same(d, dyadOf(want)) {
			t.Fatalf("Dot of the first %d: %v, %v", i+1, d, is)
		}
	}
}

// P3.3
func TestSumAndDotOfWrongLists(t *testing.T) {
	for _, x := range noNumbers() {
		for at := range 3 {
			l := []float64{1, 0, -2}
			l[at] = x
			if d, is := Sum(l); is || !isZero(d) {
				t.Errorf("Sum(%v): %v, %v", l, d, is)
			}
			for _, pair := range [][2][]float64{{l, {0, 0, 0}}, {{0, 0, 0}, l}, {l, l}, {l, nil}, {{1}, l}} {
				if d, is := Dot(pair[0], pair[1]); is || !isZero(d) {
					t.Errorf("Dot(%v): %v, %v", pair, d, is)
				}
			}
		}
	}
	for _, pair := range [][2][]float64{{{1}, nil}, {nil, {1}}, {{1}, {1, 2}}, {{1, 2, 3}, {1, 2}}} {
		if d, is := Dot(pair[0], pair[1]); is || !isZero(d) {
			t.Errorf("Dot(%v): %v, %v", pair, d, is)
		}
	}
}

// P3.4
func TestOrderIsOfNoMoment(t *testing.T) {
	l := someFloats()
	back := slices.Clone(l)
	slices.Reverse(back)
	there, _ := Sum(l)
	if here, _ := Sum(back); !same(here, there) {
		t.Errorf("Sum: %v, backward %v", there, here)
	}
	there, _ = Dot(l, l)
	if here, _ := Dot(back, back); !same(here, there) {
		t.Errorf("Dot: %v, backward %v", there, here)
	}
	one := api.Dyad{}
	for _, x := range back {
		d, _ := From(x)
		one = Add(one, Mul(d, d))
	}
	if !same(one, there) {
		t.Errorf("one by one: %v, not %v", one, there)
	}
}

// R5
func TestNothingIsChangedOrShared(t *testing.T) {
	for _, d := range pool() {
		kept := slices.Clone(d.N)
		for _, other := range []api.Dyad{{}, one(true, 0, 1), d} {
			for i, got := range []api.Dyad{Norm(d.Neg, d.N, d.Exp), Neg(d), Abs(d), Add(d, other), Add(other, d), Sub(d, other), Sub(other, d), Mul(d, other), Mul(other, d)} {
				for j := range got.N {
					got.N[j] ^= all
				}
				if !slices.Equal(d.N, kept) {
					t.Fatalf("%v: call %d shares or changes its digits", d, i)
				}
			}
		}
	}
}
