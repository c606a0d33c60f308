package gram

import (
	"math"
	"math/big"
	"slices"
	"testing"

	"levelling/api"
	"levelling/dyad"
)

const (
	least    = math.SmallestNonzeroFloat64
	greatest = math.MaxFloat64
	high     = 0x1p420
)

var (
	minusZero = math.Copysign(0, -1)
	infinity  = math.Inf(1)
)

// outside has numbers of columns of which there is no Gram list.
var outside = []int{0, -1, -2, -3, 7, 8, 100, math.MaxInt, math.MinInt}

func same(a, b []api.Dyad) bool {
	return slices.EqualFunc(a, b, func(a, b api.Dyad) bool {
		return a.Neg == b.Neg && a.Exp == b.Exp && slices.Equal(a.N, b.N)
	})
}

// of is the dyads of floats.
func of(l ...float64) []api.Dyad {
	out := []api.Dyad{}
	for _, x := range l {
		d, is := dyad.From(x)
		if !is {
			panic("no number")
		}
		out = append(out, d)
	}
	return out
}

func copied(l []api.Dyad) []api.Dyad {
	out := slices.Clone(l)
	for i := range out {
		out[i].N = slices.Clone(out[i].N)
	}
	return out
}

// whole is x times 2^1074, by the library's numbers: so all products of floats are whole numbers times 2^-2148.
func whole(x float64) *big.Int {
	mant, exp := math.Frexp(x)
	n := big.NewInt(int64(mant * (1 << 53)))
	if exp += 1074 - 53; exp < 0 {
		return n.Rsh(n, uint(-exp))
	}
	return n.Lsh(n, uint(exp))
}

// dyadOf is the dyad of n times 2^-2148.
func dyadOf(n *big.Int) api.Dyad {
	if n.Sign() == 0 {
		return api.Dyad{}
	}
	zeros := n.TrailingZeroBits()
	odd := new(big.Int).Rsh(new(big.Int).Abs(n), zeros)
	d := api.Dyad{Neg: n.Sign() < 0, Exp: int(zeros) - 2148}
	for base := big.NewInt(1 << 32); odd.Sign() > 0; {
		digit := new(big.Int)
		odd.DivMod(odd, base, digit)
		d.N = append(d.N, uint32(digit.Uint64()))
	}
	return d
}

// byWords says over again what rows come to, by the library's numbers.
func byWords(cols int, l ...api.Row) []api.Dyad {
	var out []api.Dyad
	for i := 0; i <= cols; i++ {
		for j := i; j <= cols; j++ {
			sum := new(big.Int)
			for _, r := range l {
				entries := append(slices.Clone(r.X), r.Y)
				sum.Add(sum, new(big.Int).Mul(whole(entries[i]), whole(entries[j])))
			}
			out = append(out, dyadOf(sum))
		}
	}
	return out
}

// drawer hands out floats, the same ones again for each start.
type drawer uint64

func (d *drawer) next() uint64 {
	*d ^= *d << 13
	*d ^= *d >> 7
	*d ^= *d << 17
	return uint64(*d)
}

// float has any fraction and sign; its exponent is at most width away from 0. Some are zeros.
func (d *drawer) float(width int) float64 {
	x := math.Ldexp(1+float64(d.next()>>12)/(1<<52), int(d.next()%uint64(2*width+1))-width)
	switch d.next() % 16 {
	case 0:
		return 0
	case 1:
		return minusZero
	case 2, 3, 4, 5, 6, 7, 8:
		return -x
	}
	return x
}

func (d *drawer) row(cols, width int) api.Row {
	r := api.Row{X: make([]float64, cols), Y: d.float(width)}
	for i := range r.X {
		r.X[i] = d.float(width)
	}
	return r
}

func (d *drawer) rows(cols, n, width int) []api.Row {
	l := make([]api.Row, n)
	for i := range l {
		l[i] = d.row(cols, width)
	}
	return l
}

// refused tells whether an answer is none and false.
func refused(l []api.Dyad, is bool) bool { return !is && len(l) == 0 }

// P8.1
func TestZero(t *testing.T) {
	for cols, size := range []int{0, 3, 6, 10, 15, 21, 28, 0} {
		l := Zero(cols)
		if !same(l, make([]api.Dyad, size)) {
			t.Errorf("Zero(%d): %v", cols, l)
		}
	}
	for _, cols := range outside {
		if l := Zero(cols); len(l) != 0 {
			t.Errorf("Zero(%d): %v", cols, l)
		}
	}
}

// P8.1: the document's example first.
func TestRow(t *testing.T) {
	for _, c := range []struct {
		r    api.Row
		want []api.Dyad
	}{
		{api.Row{X: []float64{2}, Y: 3}, of(4, 6, 9)},
		{api.Row{X: []float64{2}, Y: -3}, of(4, -6, 9)},
		{api.Row{X: []float64{-2}, Y: -3}, of(4, 6, 9)},
		{api.Row{X: []float64{1, 0.5}, Y: 2}, of(1, 0.5, 2, 0.25, 1, 4)},
		{api.Row{X: []float64{2, 3, 5}, Y: 7}, of(4, 6, 10, 14, 9, 15, 21, 25, 35, 49)},
		{api.Row{X: []float64{minusZero}, Y: -1}, of(0, 0, 1)},
		{api.Row{X: []float64{-1}, Y: minusZero}, of(1, 0, 0)},
		{api.Row{X: []float64{0, 0, 0, 0, 0, 0}}, make([]api.Dyad, 28)},
		{api.Row{X: []float64{least}, Y: -1}, []api.Dyad{{N: api.Nat{1}, Exp: -2148}, {Neg: true, N: api.Nat{1}, Exp: -1074}, {N: api.Nat{1}}}},
		{api.Row{X: []float64{0x1p1023}, Y: 1}, []api.Dyad{{N: api.Nat{1}, Exp: 2046}, {N: api.Nat{1}, Exp: 1023}, {N: api.Nat{1}}}},
	} {
		if l, is := Row(c.r); !is || !same(l, c.want) {
			t.Errorf("Row(%v): %v, %v, not %v", c.r, l, is, c.want)
		}
	}
}

// P8.1: without an error, for rows of all widths and floats of all sizes.
func TestRowHasNoError(t *testing.T) {
	seed := drawer(1)
	for cols := 1; cols <= 6; cols++ {
		for _, width := range []int{0, 3, 60, 400, 1020} {
			for range 20 {
				r := seed.row(cols, width)
				if l, is := Row(r); !is || !same(l, byWords(cols, r)) {
					t.Errorf("Row(%v): %v, %v", r, l, is)
				}
			}
		}
	}
	r := api.Row{X: []float64{greatest, -greatest, least, -least, 0x1p-1022}, Y: 1}
	if l, is := Row(r); !is || !same(l, byWords(5, r)) {
		t.Errorf("Row(%v): %v, %v", r, l, is)
	}
}

// P8.1: wrong inputs.
func TestRowRefuses(t *testing.T) {
	for _, n := range []int{0, 7, 8, 1000} {
		if !refused(Row(api.Row{X: make([]float64, n), Y: 2})) {
			t.Errorf("Row of %d entries is not refused", n)
		}
	}
	for cols := 1; cols <= 6; cols++ {
		for _, x := range []float64{infinity, -infinity, math.NaN()} {
			for i := range cols {
				r := api.Row{X: slices.Repeat([]float64{1}, cols), Y: 1}
				r.X[i] = x
				if !refused(Row(r)) {
					t.Errorf("Row(%v) is not refused", r)
				}
			}
			if r := (api.Row{X: make([]float64, cols), Y: x}); !refused(Row(r)) {
				t.Errorf("Row(%v) is not refused", r)
			}
		}
	}
}

// P8.2
func TestRows(t *testing.T) {
	l := []api.Row{{X: []float64{2}, Y: -3}, {X: []float64{1}, Y: 6}}
	if g, is := Rows(1, l); !is || !same(g, of(5, 0, 45)) {
		t.Errorf("Rows(1, %v): %v, %v", l, g, is)
	}
	for cols := 1; cols <= 6; cols++ {
		for _, none := range [][]api.Row{nil, {}} {
			if g, is := Rows(cols, none); !is || len(g) == 0 || !same(g, Zero(cols)) {
				t.Errorf("Rows(%d) of none: %v, %v", cols, g, is)
			}
		}
	}
	// Nothing is lost beside what is great, and what is great may go away again.
	far := []api.Row{{X: []float64{0x1p1000}, Y: 1}, {X: []float64{0x1p-1000}, Y: 0x1p-1000}, {X: []float64{0x1p1000}, Y: -1}}
	if g, is := Rows(1, far); !is || !same(g, byWords(1, far...)) || !same(g[1:2], []api.Dyad{{N: api.Nat{1}, Exp: -2000}}) {
		t.Errorf("Rows(1, %v): %v, %v", far, g, is)
	}
}

// P8.2: without an error.
func TestRowsHaveNoError(t *testing.T) {
	seed := drawer(2)
	for cols := 1; cols <= 6; cols++ {
		for _, width := range []int{0, 5, 400, 1020} {
			for _, n := range []int{1, 2, 7, 30} {
				l := seed.rows(cols, n, width)
				if g, is := Rows(cols, l); !is || !same(g, byWords(cols, l...)) {
					t.Errorf("Rows(%d, %v): %v, %v", cols, l, g, is)
				}
			}
		}
	}
}

// P8.2: wrong inputs, in whichever row they are.
func TestRowsRefuse(t *testing.T) {
	for _, cols := range outside {
		for _, l := range [][]api.Row{nil, {{}}, {{X: []float64{1}}}, {{X: make([]float64, 7)}}} {
			if !refused(Rows(cols, l)) {
				t.Errorf("Rows(%d, %v) is not refused", cols, l)
			}
		}
	}
	for cols := 1; cols <= 6; cols++ {
		for at := range 3 {
			good := slices.Repeat([]api.Row{{X: make([]float64, cols), Y: 1}}, 3)
			for _, bad := range []api.Row{{}, {X: make([]float64, cols-1)}, {X: make([]float64, cols+1)}, {X: make([]float64, cols), Y: infinity}, {X: slices.Repeat([]float64{math.NaN()}, cols)}} {
				l := slices.Clone(good)
				l[at] = bad
				if !refused(Rows(cols, l)) {
					t.Errorf("Rows(%d, %v) is not refused", cols, l)
				}
			}
		}
	}
}

// P8.3
func TestFactor(t *testing.T) {
	for _, c := range []struct {
		f    api.Factor
		want []api.Dyad
	}{
		{api.Factor{Cols: 1, Tri: []float64{3, 6, 0}, Rows: 1}, of(9, 18, 36)},
		{api.Factor{Cols: 2, Tri: []float64{2, 1, -1, 3, 0.5, 4}, Rows: 3, Turns: 9}, of(4, 2, -2, 10, 0.5, 17.25)},
		{api.Factor{Cols: 2, Tri: make([]float64, 6)}, Zero(2)},
		{api.Factor{Cols: 1, Tri: []float64{0x1p420, -0x1p420, 0x1p420}, Rows: 200, Turns: 4096}, of(0x1p840, -0x1p840, 0x1p841)},
		{api.Factor{Cols: 1, Tri: []float64{least, minusZero, 0}}, []api.Dyad{{N: api.Nat{1}, Exp: -2148}, {}, {}}},
	} {
		if g, is := Factor(c.f); !is || !same(g, c.want) {
			t.Errorf("Factor(%v): %v, %v, not %v", c.f, g, is, c.want)
		}
	}
}

// drawn is a factor that may be, and its lines as rows, laid out apart from package tri.
func (d *drawer) drawn(cols, width int) (api.Factor, []api.Row) {
	f := api.Factor{Cols: cols, Rows: cols, Turns: 17}
	var lines []api.Row
	for i := 0; i <= cols; i++ {
		line := make([]float64, cols+1)
		for j := i; j <= cols; j++ {
			line[j] = d.float(width)
			if i == j {
				line[j] = math.Abs(line[j])
			}
			f.Tri = append(f.Tri, line[j])
		}
		lines = append(lines, api.Row{X: line[:cols], Y: line[cols]})
	}
	return f, lines
}

// P8.3: without an error, and the same as that of the lines as rows.
func TestFactorHasNoError(t *testing.T) {
	seed := drawer(3)
	for cols := 1; cols <= 6; cols++ {
		for _, width := range []int{0, 5, 400, 419} {
			for range 10 {
				f, lines := seed.drawn(cols, width)
				g, is := Factor(f)
				if !is || !same(g, byWords(cols, lines...)) {
					t.Errorf("Factor(%v): %v, %v", f, g, is)
				}
				if r, too := Rows(cols, lines); !too || !same(g, r) {
					t.Errorf("Factor(%v) is not that of its lines", f)
				}
			}
		}
	}
}

// P8.3: wrong inputs.
func TestFactorRefuses(t *testing.T) {
	for _, f := range []api.Factor{
		{},
		{Cols: 1},
		{Cols: 1, Tri: []float64{1, 2}},
		{Cols: 1, Tri: []float64{1, 2, 3, 4}},
		{Cols: 2, Tri: []float64{1, 2, 3}},
		{Cols: 7, Tri: make([]float64, 36)},
		{Cols: -3, Tri: []float64{1}},
		{Cols: math.MaxInt, Tri: make([]float64, 28)},
		{Cols: 1, Tri: []float64{-1, 2, 3}},
		{Cols: 1, Tri: []float64{1, 2, minusZero}},
		{Cols: 1, Tri: []float64{1, math.NaN(), 3}},
		{Cols: 1, Tri: []float64{1, -infinity, 3}},
		{Cols: 1, Tri: []float64{1, math.Nextafter(high, infinity), 3}},
		{Cols: 1, Tri: []float64{1, 2, 3}, Rows: 201},
		{Cols: 1, Tri: []float64{1, 2, 3}, Rows: -1},
		{Cols: 1, Tri: []float64{1, 2, 3}, Turns: 4097},
		{Cols: 1, Tri: []float64{1, 2, 3}, Turns: -1},
	} {
		if !refused(Factor(f)) {
			t.Errorf("Factor(%v) is not refused", f)
		}
	}
}

// P8.4
func TestAddAndSub(t *testing.T) {
	wrong := []api.Dyad{{N: api.Nat{2}}, {Neg: true}, {N: api.Nat{1, 0}}, {N: api.Nat{1}, Exp: 20001}}
	for _, c := range []struct{ a, b, sum, less []api.Dyad }{
		{of(1, 2, 3), of(5, -2, 0.5), of(6, 0, 3.5), of(-4, 4, 2.5)},
		{of(0, 0x1p1000), of(0, 0x1p1000), of(0, 0x1p1001), of(0, 0)},
		{of(7), of(7), of(14), of(0)},
		{nil, nil, nil, nil},
		{[]api.Dyad{}, nil, nil, nil},
		// One that may not be is taken as 0.
		{of(1, 2, 3, 4), wrong, of(1, 2, 3, 4), of(1, 2, 3, 4)},
		{wrong, of(1, 2, 3, 4), of(1, 2, 3, 4), of(-1, -2, -3, -4)},
		{wrong, wrong, of(0, 0, 0, 0), of(0, 0, 0, 0)},
	} {
		if g, is := Add(c.a, c.b); !is || !same(g, c.sum) {
			t.Errorf("Add(%v, %v): %v, %v, not %v", c.a, c.b, g, is, c.sum)
		}
		if g, is := Sub(c.a, c.b); !is || !same(g, c.less) {
			t.Errorf("Sub(%v, %v): %v, %v, not %v", c.a, c.b, g, is, c.less)
		}
	}
}

// P8.4: wrong inputs.
func TestAddAndSubRefuse(t *testing.T) {
	l := of(1, 2, 3, 4, 5, 6)
	for i := range 7 {
		for j := range 7 {
			if i == j {
				continue
			}
			if !refused(Add(l[:i], l[:j])) || !refused(Sub(l[:i], l[:j])) {
				t.Errorf("lists of %d and %d entries are not refused", i, j)
			}
		}
	}
}

// P8.4
func TestFade(t *testing.T) {
	for _, c := range []struct {
		a    []api.Dyad
		beta float64
		want []api.Dyad
	}{
		{of(1, 2, 3), 0.5, of(0.25, 0.5, 0.75)},
		{of(1, -2, 3), -0.5, of(0.25, -0.5, 0.75)},
		{of(1, -2, 0), 3, of(9, -18, 0)},
		{of(1, -2, 3), 1, of(1, -2, 3)},
		{of(1, -2, 3), -1, of(1, -2, 3)},
		{of(1, -2, 3), 0, of(0, 0, 0)},
		{of(1, -2, 3), minusZero, of(0, 0, 0)},
		{of(1), least, []api.Dyad{{N: api.Nat{1}, Exp: -2148}}},
		{of(-1), 0x1p1023, []api.Dyad{{Neg: true, N: api.Nat{1}, Exp: 2046}}},
		{nil, 0.5, nil},
		{[]api.Dyad{{N: api.Nat{2}}, {Neg: true}, {N: api.Nat{3}, Exp: 1}}, 0.5, []api.Dyad{{}, {}, {N: api.Nat{3}, Exp: -1}}},
	} {
		if g, is := Fade(c.a, c.beta); !is || !same(g, c.want) {
			t.Errorf("Fade(%v, %v): %v, %v, not %v", c.a, c.beta, g, is, c.want)
		}
	}
	for _, beta := range []float64{infinity, -infinity, math.NaN()} {
		for _, a := range [][]api.Dyad{nil, of(0), of(1, 2, 3)} {
			if !refused(Fade(a, beta)) {
				t.Errorf("Fade(%v, %v) is not refused", a, beta)
			}
		}
	}
}

// P8.4: together, less, and faded as the rows themselves would be, without an error.
func TestListsAreCountedAsTheirRows(t *testing.T) {
	seed := drawer(4)
	for cols := 1; cols <= 6; cols++ {
		for _, width := range []int{2, 400} {
			l, m := seed.rows(cols, 5, width), seed.rows(cols, 4, width)
			a, _ := Rows(cols, l)
			b, _ := Rows(cols, m)
			both, _ := Rows(cols, slices.Concat(l, m))
			if sum, is := Add(a, b); !is || !same(sum, both) {
				t.Errorf("Add(%v, %v): %v, %v", a, b, sum, is)
			}
			if less, is := Sub(both, b); !is || !same(less, a) {
				t.Errorf("Sub(%v, %v): %v, %v", both, b, less, is)
			}
			// Three times an entry of few bits is a float without an error.
			r := api.Row{X: slices.Repeat([]float64{0.75}, cols), Y: -1.5}
			three := api.Row{X: slices.Repeat([]float64{2.25}, cols), Y: -4.5}
			one, _ := Row(r)
			if faded, is := Fade(one, 3); !is || !same(faded, byWords(cols, three)) {
				t.Errorf("Fade(%v, 3): %v, %v", one, faded, is)
			}
		}
	}
}

// P8.5
func TestOrderOfRowsIsOfNoMoment(t *testing.T) {
	seed := drawer(5)
	for cols := 1; cols <= 6; cols++ {
		l := seed.rows(cols, 12, 500)
		want, _ := Rows(cols, l)
		for range 5 {
			for i := range l {
				j := int(seed.next() % uint64(len(l)))
				l[i], l[j] = l[j], l[i]
			}
			if g, is := Rows(cols, l); !is || !same(g, want) {
				t.Errorf("Rows(%d, %v): %v, %v, not %v", cols, l, g, is, want)
			}
		}
		slices.Reverse(l)
		if g, is := Rows(cols, l); !is || !same(g, want) {
			t.Errorf("Rows(%d, %v): %v, %v, not %v", cols, l, g, is, want)
		}
	}
}

// P8.5: no entry's square is above the product of the two entries on the diagonal; of one row it is that product.
func TestSquaresAreNotAboveTheDiagonal(t *testing.T) {
	seed := drawer(6)
	for cols := 1; cols <= 6; cols++ {
		for n := range 6 {
			g, _ := Rows(cols, seed.rows(cols, n, 1+n*100))
			at := 0
			diagonal := make([]api.Dyad, cols+1)
			for i := range diagonal {
				diagonal[i] = g[at]
				at += cols + 1 - i
			}
			at = 0
			for i := range diagonal {
				for j := i; j <= cols; j++ {
					order := dyad.Cmp(dyad.Mul(g[at], g[at]), dyad.Mul(diagonal[i], diagonal[j]))
					if order > 0 || n < 2 && order != 0 {
						t.Errorf("%d rows of %d columns: the square of columns %d and %d: %d", n, cols, i, j, order)
					}
					at++
				}
			}
		}
	}
}

// spoil writes over all digits of a list.
func spoil(l []api.Dyad) {
	for i := range l {
		for k := range l[i].N {
			l[i].N[k] ^= 1<<32 - 1
		}
		l[i] = api.Dyad{Neg: true, Exp: 99}
	}
}

// R5: what is handed in is not changed, and no answer shares its memory.
func TestAnswersAreNewMemory(t *testing.T) {
	a, b := of(1.1, 0, -3), of(0, -2.3, 1e300)
	first, second := copied(a), copied(b)
	for _, call := range []func() ([]api.Dyad, bool){
		func() ([]api.Dyad, bool) { return Add(a, b) },
		func() ([]api.Dyad, bool) { return Add(a, make([]api.Dyad, 3)) },
		func() ([]api.Dyad, bool) { return Add(make([]api.Dyad, 3), b) },
		func() ([]api.Dyad, bool) { return Sub(a, b) },
		func() ([]api.Dyad, bool) { return Sub(a, make([]api.Dyad, 3)) },
		func() ([]api.Dyad, bool) { return Fade(a, 1) },
		func() ([]api.Dyad, bool) { return Fade(b, 0.3) },
	} {
		g, is := call()
		if !is || !same(a, first) || !same(b, second) {
			t.Fatalf("what was handed in is changed: %v, %v", a, b)
		}
		if spoil(g); !same(a, first) || !same(b, second) {
			t.Fatalf("what was handed in is shared: %v, %v", a, b)
		}
	}
	r := api.Row{X: []float64{1, -2}, Y: 3}
	f := api.Factor{Cols: 1, Tri: []float64{1, -2, 3}}
	g, _ := Row(r)
	h, _ := Rows(2, []api.Row{r, r})
	k, _ := Factor(f)
	spoil(g)
	spoil(h)
	spoil(k)
	if !slices.Equal(r.X, []float64{1, -2}) || !slices.Equal(f.Tri, []float64{1, -2, 3}) {
		t.Errorf("what was handed in is changed: %v, %v", r, f)
	}
}
