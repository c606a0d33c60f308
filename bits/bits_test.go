package bits

import (
	"math"
	"math/big"
	"testing"

	"levelling/api"
)

const (
	least    = math.SmallestNonzeroFloat64
	greatest = math.MaxFloat64
)

var (
	minusZero = math.Copysign(0, -1)
	lowest    = math.Ldexp(1, -1022)
)

// someFloats goes through all exponents, with the fractions at their edges, and both signs.
func someFloats() []float64 {
	var l []float64
	for field := uint64(0); field < 1<<11; field++ {
		for _, frac := range []uint64{0, 1, 2, 3, 1 << 20, 1<<51 - 1, 1 << 51, 1<<51 + 1, 0x5555555555555, 1<<52 - 2, 1<<52 - 1} {
			b := field<<52 | frac
			l = append(l, math.Float64frombits(b), math.Float64frombits(b|1<<63))
		}
	}
	return l
}

// exact is the float that is mant times 2 to the power of exp, by the library's numbers of any size.
func exact(neg bool, mant uint64, exp int) (float64, bool) {
	b := new(big.Float).SetMantExp(new(big.Float).SetUint64(mant), exp)
	x, how := b.Float64()
	if how != big.Exact || math.IsInf(x, 0) {
		return 0, false
	}
	if neg {
		x = math.Copysign(x, -1)
	}
	return x, true
}

func sameBits(a, b float64) bool { return math.Float64bits(a) == math.Float64bits(b) }

func TestKindsAreCounted(t *testing.T) {
	if Zero != 0 || Finite != 1 || Inf != 2 || NaN != 3 {
		t.Errorf("kinds: %d %d %d %d", Zero, Finite, Inf, NaN)
	}
}

// P1.1
func TestSplit(t *testing.T) {
	for _, c := range []struct {
		x    float64
		neg  bool
		mant uint64
		exp  int
		kind int
	}{
		{0, false, 0, 0, Zero},
		{minusZero, true, 0, 0, Zero},
		{math.Inf(1), false, 0, 0, Inf},
		{math.Inf(-1), true, 0, 0, Inf},
		{math.NaN(), false, 0, 0, NaN},
		{math.Float64frombits(1<<64 - 1), false, 0, 0, NaN},
		{math.Float64frombits(0xfff0000000000001), false, 0, 0, NaN},
		{0.5, false, 1 << 52, -53, Finite},
		{-0.5, true, 1 << 52, -53, Finite},
		{1, false, 1 << 52, -52, Finite},
		{-6, true, 3 << 51, -50, Finite},
		{0.1, false, 0x1999999999999a, -56, Finite},
		{least, false, 1, -1074, Finite},
		{-least, true, 1, -1074, Finite},
		{lowest - least, false, 1<<52 - 1, -1074, Finite},
		{lowest, false, 1 << 52, -1074, Finite},
		{2 * lowest, false, 1 << 52, -1073, Finite},
		{greatest, false, 1<<53 - 1, 971, Finite},
		{-greatest, true, 1<<53 - 1, 971, Finite},
	} {
		neg, mant, exp, kind := Split(c.x)
		if neg != c.neg || mant != c.mant || exp != c.exp || kind != c.kind {
			t.Errorf("Split(%v): %v, %d, %d, %d", c.x, neg, mant, exp, kind)
		}
	}
}

// P1.1, at all exponents
func TestSplitIsTheFloat(t *testing.T) {
	for _, x := range someFloats() {
		neg, mant, exp, kind := Split(x)
		if x != x || math.IsInf(x, 0) || x == 0 {
			continue
		}
		if kind != Finite || neg != (x < 0) || math.Ldexp(float64(mant), exp) != math.Abs(x) {
			t.Errorf("Split(%v): %v, %d, %d, %d", x, neg, mant, exp, kind)
		}
		if mant >= 1<<53 || exp < -1074 || mant < 1<<52 && exp != -1074 {
			t.Errorf("Split(%v): %d, %d is not of the asked form", x, mant, exp)
		}
	}
}

// P1.2
func TestMake(t *testing.T) {
	for _, c := range []struct {
		neg  bool
		mant uint64
		exp  int
		want float64
		is   bool
	}{
		{false, 0, 0, 0, true},
		{true, 0, 0, minusZero, true},
		{false, 0, math.MaxInt, 0, true},
		{true, 0, math.MinInt, minusZero, true},
		{false, 5, -1, 2.5, true},
		{true, 5, -1, -2.5, true},
		{false, 1<<53 - 1, 971, greatest, true},
		{true, 1<<53 - 1, 971, -greatest, true},
		{false, 1<<53 - 1, 972, 0, false},
		{false, 1 << 53, 970, math.Ldexp(1, 1023), true},
		{false, 1 << 53, 971, 0, false},
		{false, 1, 1023, math.Ldexp(1, 1023), true},
		{true, 1, 1024, 0, false},
		{false, 1 << 63, 960, math.Ldexp(1, 1023), true},
		{false, 1 << 63, 961, 0, false},
		{false, 1, -1074, least, true},
		{true, 1, -1075, 0, false},
		{false, 3, -1074, 3 * least, true},
		{false, 3, -1075, 0, false},
		{false, 1 << 63, -1137, least, true},
		{false, 1 << 63, -1138, 0, false},
		{false, 1<<52 - 1, -1074, lowest - least, true},
		{false, 1<<52 + 1, -1074, lowest + least, true},
		{false, 1<<52 + 1, -1075, 0, false},
		{false, 1<<53 + 1, 0, 0, false},
		{true, 1<<53 + 2, 0, -(1<<53 + 2), true},
		{false, 1<<64 - 1, 0, 0, false},
		{false, 1<<64 - 1<<11, 0, 1<<64 - 1<<11, true},
		{false, 1<<64 - 1<<10, 0, 0, false},
		{false, 1, math.MaxInt, 0, false},
		{true, 1 << 63, math.MaxInt, 0, false},
		{false, 3, math.MaxInt, 0, false},
		{false, 1<<53 - 1, math.MaxInt - 50, 0, false},
		{false, 1, math.MinInt, 0, false},
		{true, 1 << 63, math.MinInt, 0, false},
	} {
		if x, is := Make(c.neg, c.mant, c.exp); !sameBits(x, c.want) || is != c.is {
			t.Errorf("Make(%v, %d, %d): %v, %v", c.neg, c.mant, c.exp, x, is)
		}
	}
}

// P1.2, against numbers of any size
func TestMakeIsExact(t *testing.T) {
	for _, mant := range []uint64{1, 2, 3, 12, 1<<31 + 1, 1<<52 - 1, 1 << 52, 1<<53 - 1, 1 << 53, 1<<53 + 1, 3 << 60, 1<<63 + 1<<11, 1<<63 + 1<<10, 1<<64 - 1} {
		for exp := -1200; exp <= 1100; exp++ {
			for _, neg := range []bool{false, true} {
				want, can := exact(neg, mant, exp)
				if x, is := Make(neg, mant, exp); !sameBits(x, want) || is != can {
					t.Errorf("Make(%v, %d, %d): %v, %v", neg, mant, exp, x, is)
				}
			}
		}
	}
}

// P1.3
func TestPow(t *testing.T) {
	for k := -1300; k <= 1300; k++ {
		want := math.Ldexp(1, k)
		if k < -1074 || k > 1023 {
			want = 0
		}
		if x := Pow(k); !sameBits(x, want) {
			t.Errorf("Pow(%d): %v", k, x)
		}
	}
	for _, k := range []int{math.MinInt, math.MinInt + 1, -1 << 32, 1 << 32, math.MaxInt - 1, math.MaxInt} {
		if x := Pow(k); !sameBits(x, 0) {
			t.Errorf("Pow(%d): %v", k, x)
		}
	}
}

// P1.3
func TestScale(t *testing.T) {
	for _, c := range []struct {
		x    float64
		k    int
		want float64
		is   bool
	}{
		{0, math.MaxInt, 0, true},
		{minusZero, math.MinInt, minusZero, true},
		{minusZero, 0, minusZero, true},
		{math.Inf(1), 0, 0, false},
		{math.Inf(-1), -1, 0, false},
		{math.NaN(), 5, 0, false},
		{-3, 4, -48, true},
		{-48, -4, -3, true},
		{least, 2097, math.Ldexp(1, 1023), true},
		{least, 2098, 0, false},
		{math.Ldexp(-1, 1023), -2097, -least, true},
		{math.Ldexp(-1, 1023), -2098, 0, false},
		{greatest, 1, 0, false},
		{greatest, 0, greatest, true},
		{greatest, -1, greatest / 2, true},
		{greatest, -2045, math.Ldexp(greatest, -2045), true},
		{greatest, -2046, 0, false},
		{lowest, -52, least, true},
		{lowest, -53, 0, false},
		{lowest + least, -1, 0, false},
		{3 * least, 1, 6 * least, true},
		{1, math.MaxInt, 0, false},
		{1, math.MinInt, 0, false},
		{least, math.MaxInt, 0, false},
		{greatest, math.MinInt, 0, false},
		{least, math.MinInt, 0, false},
	} {
		if x, is := Scale(c.x, c.k); !sameBits(x, c.want) || is != c.is {
			t.Errorf("Scale(%v, %d): %v, %v", c.x, c.k, x, is)
		}
	}
}

// P1.3, against numbers of any size
func TestScaleIsExact(t *testing.T) {
	for _, x := range []float64{1, -1, 0.1, -7, least, 5 * least, lowest - least, -lowest, lowest + least, greatest, -greatest / 3} {
		neg, mant, exp, _ := Split(x)
		for k := -2200; k <= 2200; k++ {
			want, can := exact(neg, mant, exp+k)
			if y, is := Scale(x, k); !sameBits(y, want) || is != can {
				t.Errorf("Scale(%v, %d): %v, %v", x, k, y, is)
			}
		}
	}
}

// P1.4
func TestTop(t *testing.T) {
	for _, x := range []float64{0, minusZero, math.Inf(1), math.Inf(-1), math.NaN()} {
		if k := Top(x); k != -2000 {
			t.Errorf("Top(%v): %d", x, k)
		}
	}
	for x, want := range map[float64]int{1: 0, -1: 0, 1.5: 0, 2: 1, 3.99: 1, 0.75: -1, least: -1074, -3 * least: -1073, lowest - least: -1023, lowest: -1022, greatest: 1023, -greatest: 1023} {
		if k := Top(x); k != want {
			t.Errorf("Top(%v): %d", x, k)
		}
	}
	for _, x := range someFloats() {
		if x != x || x == 0 || math.IsInf(x, 0) {
			continue
		}
		k := Top(x)
		above := math.Ldexp(1, k+1)
		if math.Ldexp(1, k) > math.Abs(x) || above <= math.Abs(x) {
			t.Errorf("Top(%v): %d", x, k)
		}
	}
}

// P1.4
func TestIn(t *testing.T) {
	low, high := math.Ldexp(1, api.LowExp), math.Ldexp(1, api.HighExp)
	for _, x := range []float64{0, 1, 0.1, low, math.Nextafter(low, 1), high, math.Nextafter(high, 1), 123456.789} {
		if !In(x) || !In(-x) {
			t.Errorf("%v is not in", x)
		}
	}
	for _, x := range []float64{math.Nextafter(low, 0), math.Nextafter(high, greatest), math.Ldexp(1, -401), math.Ldexp(1, 401), least, lowest, greatest, math.Inf(1), math.NaN()} {
		if In(x) || In(-x) {
			t.Errorf("%v is in", x)
		}
	}
	if !In(minusZero) {
		t.Error("-0 is not in")
	}
}

// P1.5
func TestSame(t *testing.T) {
	quiet, loud := math.Float64frombits(0x7ff8000000000001), math.Float64frombits(0xfff0000000000001)
	l := []float64{0, minusZero, 1, -1, math.Nextafter(1, 2), least, -least, greatest, math.Inf(1), math.Inf(-1), quiet}
	for i, a := range l {
		for j, b := range l {
			if Same(a, b) != (i == j) {
				t.Errorf("Same(%v, %v): %v", a, b, i != j)
			}
		}
		if Same(a, loud) != (a != a) || Same(loud, a) != (a != a) {
			t.Errorf("Same(%v, NaN): %v", a, a == a)
		}
	}
}

// P1.6
func TestWhatIsSplitIsMade(t *testing.T) {
	for _, x := range someFloats() {
		neg, mant, exp, kind := Split(x)
		if kind > Finite {
			continue
		}
		if y, is := Make(neg, mant, exp); !is || !sameBits(x, y) {
			t.Errorf("%v is made as %v, %v", x, y, is)
		}
	}
}

// P1.6
func TestWhatIsScaledIsScaledBack(t *testing.T) {
	scaled := 0
	for _, x := range someFloats() {
		for _, k := range []int{-2097, -1100, -60, -1, 0, 1, 52, 700, 2046} {
			y, is := Scale(x, k)
			if !is {
				continue
			}
			scaled++
			if z, is := Scale(y, -k); !is || !sameBits(x, z) {
				t.Errorf("%v by %d and back: %v, %v", x, k, z, is)
			}
		}
	}
	if scaled < 1000 {
		t.Errorf("only %d were scaled", scaled)
	}
}
