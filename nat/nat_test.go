package nat

import (
	"math"
	"math/big"
	"slices"
	"testing"

	"levelling/api"
)

const all = 1<<32 - 1

func toBig(n api.Nat) *big.Int {
	b := new(big.Int)
	for i := len(n) - 1; i >= 0; i-- {
		b.Lsh(b, 32).Or(b, big.NewInt(int64(n[i])))
	}
	return b
}

// is tells whether n is b, in a number's digits.
func is(n api.Nat, b *big.Int) bool {
	return (len(n) == 0 || n[len(n)-1] != 0) && toBig(n).Cmp(b) == 0
}

// some is a number of so many digits, from a rule that brings the edges of digits often; each seed has its own.
func some(seed uint64, count int) api.Nat {
	n := make(api.Nat, count)
	for i := range n {
		seed = seed*6364136223846793005 + 1442695040888963407
		x := uint32(seed >> 32)
		switch seed >> 29 & 7 {
		case 0:
			x = 0
		case 1:
			x = all
		case 2:
			x = 1 << 31
		case 3:
			x = x&1 | 1<<31
		}
		n[i] = x
	}
	return n
}

// pool has numbers of all kinds: none, zeros at the end, one digit, many.
func pool() []api.Nat {
	l := []api.Nat{
		nil, {}, {0}, {0, 0, 0}, {1}, {1, 0}, {2}, {3, 0, 0}, {all}, {all, 0}, {1 << 31}, {0, 1}, {0, 1, 0}, {1, 1}, {all, all}, {0, 0, 1}, {1, 0, 1},
		{all, all, all}, {0, 0, 1 << 31}, {3, 0, 1 << 31}, {1, 0, 1 << 29}, {0, all - 1, 1 << 31}, {0xffff, 1 << 31}, {0, 0, 0, 1}, {all, 0, all}, {0, all, 0, 0},
	}
	for i, count := range []int{1, 2, 2, 3, 3, 4, 5, 5, 8, 13, 21, 40, 41, 100} {
		l = append(l, some(uint64(i), count), append(some(uint64(i+50), count), 0, 0))
	}
	return l
}

// P2.1
func TestCheck(t *testing.T) {
	for _, n := range []api.Nat{nil, {}, {1}, {0, 1}, {all, all}, {0, 0, 0, 7}} {
		if !Check(n) {
			t.Errorf("Check(%v): false", n)
		}
	}
	for _, n := range []api.Nat{{0}, {0, 0}, {1, 0}, {all, all, 0}, {0, 1, 0, 0}} {
		if Check(n) {
			t.Errorf("Check(%v): true", n)
		}
	}
}

// P2.1
func TestFromAndLow(t *testing.T) {
	for x, want := range map[uint64]api.Nat{0: nil, 1: {1}, all: {all}, 1 << 32: {0, 1}, 1<<32 + 5: {5, 1}, 1 << 63: {0, 1 << 31}, math.MaxUint64: {all, all}} {
		if n := From(x); !slices.Equal(n, want) {
			t.Errorf("From(%d): %v", x, n)
		}
		if y, ok := Low(want); y != x || !ok {
			t.Errorf("Low(%v): %d, %v", want, y, ok)
		}
		if y, ok := Low(append(slices.Clone(want), 0, 0, 0)); y != x || !ok {
			t.Errorf("Low(%v and zeros): %d, %v", want, y, ok)
		}
	}
	for _, n := range []api.Nat{{0, 0, 1}, {5, 5, 5}, {all, all, all, 0}, {1, 0, 0, 1}} {
		if x, ok := Low(n); x != 0 || ok {
			t.Errorf("Low(%v): %d, %v", n, x, ok)
		}
	}
}

// P2.1
func TestLen(t *testing.T) {
	for _, n := range pool() {
		if k := Len(n); k != toBig(n).BitLen() {
			t.Errorf("Len(%v): %d", n, k)
		}
	}
}

// P2.2
func TestCmpAddSubMul(t *testing.T) {
	for _, a := range pool() {
		for _, b := range pool() {
			x, y := toBig(a), toBig(b)
			if Cmp(a, b) != x.Cmp(y) {
				t.Errorf("Cmp(%v, %v): %d", a, b, Cmp(a, b))
			}
			if n := Add(a, b); !is(n, new(big.Int).Add(x, y)) {
				t.Errorf("Add(%v, %v): %v", a, b, n)
			}
			if n := Mul(a, b); !is(n, new(big.Int).Mul(x, y)) {
				t.Errorf("Mul(%v, %v): %v", a, b, n)
			}
			n, ok := Sub(a, b)
			if x.Cmp(y) < 0 {
				if len(n) != 0 || ok {
					t.Errorf("Sub(%v, %v): %v, %v", a, b, n, ok)
				}
			} else if !ok || !is(n, new(big.Int).Sub(x, y)) {
				t.Errorf("Sub(%v, %v): %v, %v", a, b, n, ok)
			}
		}
	}
}

// P2.3
func TestShift(t *testing.T) {
	for _, n := range pool() {
		for _, k := range []int{0, 1, 2, 31, 32, 33, 63, 64, 65, 95, 96, 1000, 99999, 100000} {
			x := toBig(n)
			if s := Shl(n, k); !is(s, new(big.Int).Lsh(x, uint(k))) {
				t.Errorf("Shl(%v, %d): %v", n, k, s)
			}
			want := new(big.Int).Rsh(x, uint(k))
			whole := new(big.Int).Lsh(want, uint(k)).Cmp(x) == 0
			if s, exact := Shr(n, k); !is(s, want) || exact != whole {
				t.Errorf("Shr(%v, %d): %v, %v", n, k, s, exact)
			}
		}
	}
}

// P2.3: the greatest shift of numbers that it does not bring to 0
func TestShiftOfManyDigits(t *testing.T) {
	n := some(7, 4000)
	far := Shl(n, 100000)
	if !is(far, new(big.Int).Lsh(toBig(n), 100000)) {
		t.Error("Shl by 100000")
	}
	if s, exact := Shr(far, 100000); !is(s, toBig(n)) || !exact {
		t.Errorf("Shr by 100000: %v", exact)
	}
	if s, exact := Shr(Add(far, api.Nat{1}), 100000); !is(s, toBig(n)) || exact {
		t.Errorf("Shr by 100000, with 1 lost: %v", exact)
	}
}

// P2.3
func TestShiftOutside(t *testing.T) {
	for _, n := range []api.Nat{nil, {0}, {1}, some(3, 9)} {
		for _, k := range []int{-1, 100001, -100000, 1 << 40, math.MinInt, math.MaxInt} {
			if s := Shl(n, k); len(s) != 0 {
				t.Errorf("Shl(%v, %d): %v", n, k, s)
			}
			if s, exact := Shr(n, k); len(s) != 0 || exact {
				t.Errorf("Shr(%v, %d): %v, %v", n, k, s, exact)
			}
		}
	}
}

func checkDiv(t *testing.T, a, b api.Nat) {
	t.Helper()
	x, y := toBig(a), toBig(b)
	q, r, ok := Div(a, b)
	if y.Sign() == 0 {
		if len(q) != 0 || len(r) != 0 || ok {
			t.Errorf("Div(%v, %v): %v, %v, %v", a, b, q, r, ok)
		}
		return
	}
	quo, rest := new(big.Int).QuoRem(x, y, new(big.Int))
	if !ok || !is(q, quo) || !is(r, rest) {
		t.Errorf("Div(%v, %v): %v, %v, %v", a, b, q, r, ok)
	}
}

// P2.4
func TestDiv(t *testing.T) {
	for _, a := range pool() {
		for _, b := range pool() {
			checkDiv(t, a, b)
		}
	}
	checkDiv(t, some(1, 2000), some(2, 900))
}

// P2.4: what is just below and just at a multiple, where a digit is guessed too great
func TestDivAtMultiples(t *testing.T) {
	for _, b := range pool() {
		for _, q := range pool() {
			at := Mul(b, q)
			checkDiv(t, at, b)
			if below, ok := Sub(at, api.Nat{1}); ok {
				checkDiv(t, below, b)
			}
		}
	}
}

// P2.4: a guess from the three highest digits that is still one too many
func TestDivGuessedTooOften(t *testing.T) {
	checkDiv(t, api.Nat{3, 0, 1 << 31}, api.Nat{1, 0, 1 << 29})
	checkDiv(t, api.Nat{0, 0, 1 << 31, 1<<31 - 1}, api.Nat{1, 0, 1 << 31})
	checkDiv(t, api.Nat{0, all - 1, 1 << 31}, api.Nat{0xffff, 1 << 31})
	checkDiv(t, api.Nat{0, 0, 0, 1 << 31, 1<<31 - 1}, api.Nat{1, 0, 0, 1 << 31})
	for seed := uint64(0); seed < 20000; seed++ {
		checkDiv(t, some(seed, 5), some(seed+1<<40, 3))
	}
}

// P2.4
func TestRoot(t *testing.T) {
	for _, n := range pool() {
		if r := Root(n); !is(r, new(big.Int).Sqrt(toBig(n))) {
			t.Errorf("Root(%v): %v", n, r)
		}
	}
	for x := uint64(0); x < 5000; x++ {
		if r := Root(From(x)); !is(r, new(big.Int).Sqrt(new(big.Int).SetUint64(x))) {
			t.Errorf("Root(%d): %v", x, r)
		}
	}
	for k := 0; k < 300; k++ {
		n := Shl(api.Nat{1}, k)
		if r := Root(n); !is(r, new(big.Int).Sqrt(toBig(n))) {
			t.Errorf("Root(2^%d): %v", k, r)
		}
	}
}

// P2.4: the root of a square, and of one less
func TestRootAtSquares(t *testing.T) {
	for _, n := range pool() {
		square := Mul(n, n)
		if r := Root(square); Cmp(r, n) != 0 {
			t.Errorf("Root of %v's square: %v", n, r)
		}
		below, ok := Sub(square, api.Nat{1})
		if !ok {
			continue
		}
		want, _ := Sub(n, api.Nat{1})
		if r := Root(below); Cmp(r, want) != 0 {
			t.Errorf("Root below %v's square: %v", n, r)
		}
	}
}

// P2.4: a root longer than any shift that Shl does
func TestRootOfManyDigits(t *testing.T) {
	n := some(11, 6500)
	if r := Root(n); !is(r, new(big.Int).Sqrt(toBig(n))) {
		t.Error("Root of 6500 digits")
	}
}

// P2.5
func TestOrderIsOfNoMoment(t *testing.T) {
	l := pool()
	for i, a := range l {
		b, c := l[(i*7+3)%len(l)], l[(i*5+1)%len(l)]
		if !slices.Equal(Add(a, b), Add(b, a)) || !slices.Equal(Mul(a, b), Mul(b, a)) {
			t.Errorf("order of %v, %v", a, b)
		}
		if !slices.Equal(Add(Add(a, b), c), Add(a, Add(b, c))) || !slices.Equal(Mul(Mul(a, b), c), Mul(a, Mul(b, c))) {
			t.Errorf("order of %v, %v, %v", a, b, c)
		}
	}
}

// P2.5
func TestBackAgain(t *testing.T) {
	for _, a := range pool() {
		for _, b := range pool() {
			if d, ok := Sub(a, b); ok && Cmp(Add(d, b), a) != 0 {
				t.Errorf("%v less %v, and added", a, b)
			}
			if q, r, ok := Div(a, b); ok && (Cmp(Add(Mul(q, b), r), a) != 0 || Cmp(r, b) >= 0) {
				t.Errorf("%v divided by %v, and back", a, b)
			}
		}
	}
}

// answers is all that nat's calls answer as lists.
func answers(a, b api.Nat) []api.Nat {
	l := []api.Nat{Add(a, b), Add(b, a), Mul(a, b), Shl(a, 0), Shl(a, 32), Root(a)}
	d, _ := Sub(a, b)
	s, _ := Shr(a, 0)
	w, _ := Shr(a, 32)
	q, r, _ := Div(a, b)
	p, o, _ := Div(b, a)
	return append(l, d, s, w, q, r, p, o)
}

// R5: what is handed in stays as it was, and answers are memory of their own
func TestNothingIsShared(t *testing.T) {
	for _, a := range pool() {
		for _, b := range []api.Nat{nil, {0}, {1}, {1, 0}, some(5, 3), a} {
			wasA, wasB := slices.Clone(a), slices.Clone(b)
			first := answers(a, b)
			for _, n := range answers(a, b) {
				n = n[:cap(n)]
				for i := range n {
					n[i] ^= all
				}
			}
			if !slices.Equal(a, wasA) || !slices.Equal(b, wasB) {
				t.Fatalf("%v, %v were changed to %v, %v", wasA, wasB, a, b)
			}
			for i, n := range answers(a, b) {
				if !slices.Equal(n, first[i]) {
					t.Errorf("answer %d of %v, %v: %v, then %v", i, a, b, first[i], n)
				}
			}
		}
	}
}

// R5: the two lists of one answer are apart, too
func TestQuotientAndRestAreApart(t *testing.T) {
	for _, a := range pool() {
		for _, b := range pool() {
			q, r, _ := Div(a, b)
			was := slices.Clone(r)
			for i := range q[:cap(q)] {
				q[:cap(q)][i] ^= all
			}
			if !slices.Equal(r, was) {
				t.Errorf("Div(%v, %v): the rest changed with the quotient", a, b)
			}
		}
	}
}
