package solve

import (
	"math"
	"math/big"
	"slices"
	"testing"

	"levelling/absorb"
	"levelling/api"
	"levelling/gram"
	"levelling/near"
)

const least = math.SmallestNonzeroFloat64

var (
	minusZero = math.Copysign(0, -1)
	infinity  = math.Inf(1)
	// A triangle's entries end here.
	greatest = math.Ldexp(1, 420)
	tooGreat = math.Nextafter(greatest, infinity)
	// Ridges end here.
	lowest, highest = math.Ldexp(1, -400), math.Ldexp(1, 400)
)

func sameBits(a, b float64) bool { return math.Float64bits(a) == math.Float64bits(b) }

func sameList(a, b []float64) bool { return slices.EqualFunc(a, b, sameBits) }

func copied(f api.Factor) api.Factor {
	f.Tri = slices.Clone(f.Tri)
	return f
}

func size(cols int) int { return (cols + 1) * (cols + 2) / 2 }

func place(cols, i, j int) int {
	at := 0
	for row := range i {
		at += cols + 1 - row
	}
	return at + j - i
}

// square is f's triangle with all its places.
func square(f api.Factor) [][]float64 {
	m := make([][]float64, f.Cols+1)
	at := 0
	for i := range m {
		m[i] = make([]float64, f.Cols+1)
		at += copy(m[i][i:], f.Tri[at:])
	}
	return m
}

// empty is a new factor.
func empty(cols int) api.Factor {
	return api.Factor{Cols: cols, Tri: make([]float64, size(cols))}
}

// filled is a factor of so many columns, no two entries of which are the same.
func filled(cols int) api.Factor {
	f := api.Factor{Cols: cols, Rows: 3, Turns: 5}
	for at := range size(cols) {
		f.Tri = append(f.Tri, -0.5-float64(at))
	}
	for i := range cols + 1 {
		f.Tri[place(cols, i, i)] *= -1
	}
	return f
}

// diagonal is a factor that has d on the diagonal, z in the last column, and zeros else.
func diagonal(cols int, d, z float64) api.Factor {
	f := empty(cols)
	for i := range cols {
		f.Tri[place(cols, i, i)] = d
		f.Tri[place(cols, i, cols)] = z
	}
	return f
}

// changed is f with x in the place of row i, column j.
func changed(f api.Factor, i, j int, x float64) api.Factor {
	f = copied(f)
	f.Tri[place(f.Cols, i, j)] = x
	return f
}

// counted is f with other numbers of rows and rotations.
func counted(f api.Factor, rows, turns int) api.Factor {
	f.Rows, f.Turns = rows, turns
	return f
}

// wrong has factors that may not be.
func wrong() []api.Factor {
	l := []api.Factor{{}, {Cols: 1}, {Tri: make([]float64, 3)}, {Cols: 7, Tri: make([]float64, 36)}, {Cols: -1, Tri: make([]float64, 1)}, {Cols: -3, Tri: make([]float64, 1)}, {Cols: math.MaxInt}, {Cols: math.MinInt}, {Cols: math.MaxInt - 1, Tri: make([]float64, 3)}}
	for cols := 1; cols <= 6; cols++ {
		f := filled(cols)
		l = append(l, changed(f, 0, 0, minusZero), changed(f, cols, cols, -1), changed(f, 0, cols, tooGreat), changed(f, 0, 1, math.NaN()), changed(f, cols, cols, infinity))
		l = append(l, counted(f, -1, 0), counted(f, 201, 0), counted(f, 0, -1), counted(f, 0, 4097), counted(f, math.MaxInt, 0), counted(f, 0, math.MinInt))
		l = append(l, api.Factor{Cols: cols, Tri: f.Tri[1:]}, api.Factor{Cols: cols, Tri: append(slices.Clone(f.Tri), 1)}, api.Factor{Cols: cols%6 + 1, Tri: f.Tri})
	}
	return l
}

// drawer hands out floats, the same ones again for each start.
type drawer uint64

func (d *drawer) next() uint64 {
	*d ^= *d << 13
	*d ^= *d >> 7
	*d ^= *d << 17
	return uint64(*d)
}

// float has any fraction and sign; its exponent is at most width away from 0. Some are zeros.
func (d *drawer) float(width int) float64 {
	if d.next()%8 == 0 {
		return math.Copysign(0, float64(int64(d.next())))
	}
	return d.nonzero(width)
}

func (d *drawer) nonzero(width int) float64 {
	x := math.Ldexp(1+float64(d.next()>>12)/(1<<52), int(d.next()%uint64(2*width+1))-width)
	if d.next()%2 == 0 {
		return -x
	}
	return x
}

func (d *drawer) list(n, width int) []float64 {
	l := make([]float64, n)
	for i := range l {
		l[i] = d.float(width)
	}
	return l
}

// factor has no 0 on the diagonal, if width is at most 419.
func (d *drawer) factor(cols, width int) api.Factor {
	f := api.Factor{Cols: cols, Tri: d.list(size(cols), width), Rows: 1, Turns: 1}
	for i := range cols + 1 {
		f.Tri[place(cols, i, i)] = math.Abs(d.nonzero(width))
	}
	return f
}

func (d *drawer) rows(cols, n, width int) []api.Row {
	l := make([]api.Row, n)
	for i := range l {
		l[i] = api.Row{X: d.list(cols, width), Y: d.float(width)}
	}
	return l
}

// scaled is f, each entry times 2 to the power of k, rounded.
func scaled(f api.Factor, k int) api.Factor {
	f = copied(f)
	for i := range f.Tri {
		f.Tri[i] = math.Ldexp(f.Tri[i], k)
	}
	return f
}

func isSingular(f api.Factor) bool {
	for i := range f.Cols {
		if f.Tri[place(f.Cols, i, i)] == 0 {
			return true
		}
	}
	return false
}

// numbers tells whether no one of l is an infinity or NaN.
func numbers(l []float64) bool {
	for _, x := range l {
		if x-x != 0 {
			return false
		}
	}
	return true
}

// told is what is answered of floats that were counted through.
func told(l []float64) ([]float64, api.Errno) {
	if !numbers(l) {
		return nil, api.ErrRange
	}
	return l, api.OK
}

// backByWords says P16.1 over again, of a factor that may be.
func backByWords(f api.Factor) ([]float64, api.Errno) {
	if isSingular(f) {
		return nil, api.ErrSing
	}
	m, n := square(f), f.Cols
	x := make([]float64, n)
	for i := n - 1; i >= 0; i-- {
		rest := m[i][n]
		for k := i + 1; k <= n-1; k++ {
			product := float64(m[i][k] * x[k])
			rest = float64(rest - product)
		}
		x[i] = float64(rest / m[i][i])
	}
	return told(x)
}

// forwardByWords says P16.2 over again, of a factor that may be and as many numbers as columns.
func forwardByWords(f api.Factor, v []float64) ([]float64, api.Errno) {
	if isSingular(f) {
		return nil, api.ErrSing
	}
	m, n := square(f), f.Cols
	w := make([]float64, n)
	for i := 0; i <= n-1; i++ {
		rest := v[i]
		for k := 0; k <= i-1; k++ {
			product := float64(m[k][i] * w[k])
			rest = float64(rest - product)
		}
		w[i] = float64(rest / m[i][i])
	}
	return told(w)
}

func holdBack(t *testing.T, f api.Factor) api.Errno {
	t.Helper()
	x, err := Back(f)
	want, wrong := backByWords(f)
	if err != wrong || !sameList(x, want) {
		t.Errorf("Back(%v): %v, %d, not %v, %d", f, x, err, want, wrong)
	}
	return err
}

func holdForward(t *testing.T, f api.Factor, v []float64) api.Errno {
	t.Helper()
	w, err := Forward(f, v)
	want, wrong := forwardByWords(f, v)
	if err != wrong || !sameList(w, want) {
		t.Errorf("Forward(%v, %v): %v, %d, not %v, %d", f, v, w, err, want, wrong)
	}
	return err
}

// P16.1: the document's examples, and numbers by hand.
func TestBack(t *testing.T) {
	little := math.Ldexp(1, -30)
	for _, c := range []struct{ tri, want []float64 }{
		{[]float64{2, 1, 5, 4, 8, 3}, []float64{1.5, 2}},
		{[]float64{3, 6, 0}, []float64{2}},
		{[]float64{1.5, 3, 0}, []float64{2}},
		{[]float64{4, -2, 9}, []float64{-0.5}},
		{[]float64{4, 0, 9}, []float64{0}},
		{[]float64{4, minusZero, 9}, []float64{minusZero}},
		{[]float64{1, 2, 3, 14, 2, -1, 1, 4, 12, 7}, []float64{1, 2, 3}},
		// The product is rounded to 1 ahead of being taken.
		{[]float64{1, 1 + little, 1, 1, 1 - little, 0}, []float64{0, 1 - little}},
		// 1 less 2^60, and 2^60 more, is 0; the other way around it would be 1.
		{[]float64{1, 0x1p60, -0x1p60, 1, 1, 0, 1, 1, 1, 0}, []float64{0, 1, 1}},
		// From 1 on, twice 2^-53 is taken, one by one: the first is half of the last bit below 1, the second another one.
		{[]float64{1, 0x1p-53, 0x1p-53, 1, 1, 0, 1, 1, 1, 0}, []float64{1 - 0x1p-52, 1, 1}},
		// -0, from which a product of +0 is taken, stays; -0, from which one of -0 is taken, does not.
		{[]float64{1, 0, minusZero, 1, 1, 0}, []float64{minusZero, 1}},
		{[]float64{1, minusZero, minusZero, 1, 1, 0}, []float64{0, 1}},
		{[]float64{least, least, 0}, []float64{1}},
		{[]float64{greatest, greatest, greatest}, []float64{1}},
		// Too small a quotient is 0.
		{[]float64{greatest, least, 0}, []float64{0}},
	} {
		cols := []int{0, 0, 0, 1, 0, 0, 2, 0, 0, 0, 3}[len(c.tri)]
		f := api.Factor{Cols: cols, Tri: c.tri, Rows: 4}
		if x, err := Back(f); err != api.OK || !sameList(x, c.want) {
			t.Errorf("Back(%v): %v, %d, not %v", f, x, err, c.want)
		}
		holdBack(t, f)
	}
}

// P16.1: bit by bit, of all kinds of triangles.
func TestBackCountsOneByOne(t *testing.T) {
	seed := drawer(1)
	count := map[api.Errno]int{}
	for cols := 1; cols <= 6; cols++ {
		for _, width := range []int{0, 1, 20, 200, 419} {
			for n := range 200 {
				f := seed.factor(cols, width)
				count[holdBack(t, f)]++
				// Numbers so small that they have few bits, or none.
				count[holdBack(t, scaled(f, -1060))]++
				if n%4 == 0 {
					i := int(seed.next() % uint64(cols))
					count[holdBack(t, changed(f, i, i, 0))]++
					// An entry so small that what is divided by it may be too great.
					count[holdBack(t, changed(f, i, i, math.Ldexp(1, -int(600+seed.next()%475))))]++
				}
			}
		}
	}
	if count[api.OK] < 5000 || count[api.ErrSing] < 1000 || count[api.ErrRange] < 500 || len(count) != 3 {
		t.Errorf("%v", count)
	}
}

func refusesBack(t *testing.T, f api.Factor, want api.Errno) {
	t.Helper()
	if x, err := Back(f); err != want || len(x) != 0 {
		t.Errorf("Back(%v): %v, %d, not %d", f, x, err, want)
	}
}

// P16.1: each error, ahead of all that are named later.
func TestBackRefuses(t *testing.T) {
	for _, f := range wrong() {
		refusesBack(t, f, api.ErrArg)
	}
	for cols := 1; cols <= 6; cols++ {
		refusesBack(t, empty(cols), api.ErrSing)
		refusesBack(t, changed(changed(filled(cols), 0, 0, 0), 0, 1, math.NaN()), api.ErrArg)
		for i := range cols {
			refusesBack(t, changed(filled(cols), i, i, 0), api.ErrSing)
			// What is too great in another row, ahead of that or behind it, is told later.
			for j := range cols {
				if j != i {
					refusesBack(t, changed(changed(diagonal(cols, 1, 1), j, j, least), i, i, 0), api.ErrSing)
				}
			}
			// A quotient, and a product, that is too great.
			refusesBack(t, changed(diagonal(cols, 1, 1), i, i, least), api.ErrRange)
			refusesBack(t, changed(diagonal(cols, 1, -1), i, i, least), api.ErrRange)
			for j := i + 1; j < cols; j++ {
				f := changed(diagonal(cols, 1, 1), j, j, math.Ldexp(1, -700))
				refusesBack(t, changed(f, i, j, greatest), api.ErrRange)
				refusesBack(t, changed(f, i, j, -greatest), api.ErrRange)
				if holdBack(t, f) != api.OK || holdBack(t, changed(f, i, j, 1)) != api.OK {
					t.Errorf("Back(%v) is refused", f)
				}
			}
			if i > 1 {
				// Both of two products are too great, so that their difference is NaN.
				f := changed(changed(diagonal(cols, 1, 1), i, i, math.Ldexp(1, -700)), i-1, i-1, math.Ldexp(1, -700))
				refusesBack(t, changed(changed(f, 0, i, greatest), 0, i-1, -greatest), api.ErrRange)
			}
		}
		// The last entry on the diagonal is not of the square part.
		if holdBack(t, changed(filled(cols), cols, cols, 0)) != api.OK || holdBack(t, changed(filled(cols), cols, cols, greatest)) != api.OK {
			t.Errorf("%d columns: the last entry is of moment", cols)
		}
	}
}

// P16.1: just at the greatest float.
func TestBackAtTheGreatest(t *testing.T) {
	for cols := 1; cols <= 6; cols++ {
		d := math.Ldexp(1, -604)
		for i := range cols {
			f := changed(changed(diagonal(cols, 1, 1), i, i, d), i, cols, math.Nextafter(greatest, 0))
			x, err := Back(f)
			if err != api.OK || x[i] != math.MaxFloat64 {
				t.Errorf("Back(%v): %v, %d", f, x, err)
			}
			refusesBack(t, changed(f, i, cols, greatest), api.ErrRange)
			refusesBack(t, changed(f, i, cols, -greatest), api.ErrRange)
		}
	}
}

// P16.2: numbers by hand.
func TestForward(t *testing.T) {
	little := math.Ldexp(1, -30)
	for _, c := range []struct{ tri, v, want []float64 }{
		{[]float64{2, 1, 5, 4, 8, 3}, []float64{4, 10}, []float64{2, 2}},
		{[]float64{3, 6, 0}, []float64{6}, []float64{2}},
		{[]float64{3, 6, 0}, []float64{minusZero}, []float64{minusZero}},
		{[]float64{1, 2, 3, 14, 2, -1, 1, 4, 12, 7}, []float64{1, 6, 13}, []float64{1, 2, 3}},
		// The last column is of no moment.
		{[]float64{1, 2, 3, greatest, 2, -1, -greatest, 4, 0, 0}, []float64{1, 6, 13}, []float64{1, 2, 3}},
		{[]float64{1, 1 + little, 1, 1, 1, 0}, []float64{1 - little, 1}, []float64{1 - little, 0}},
		{[]float64{1, 0, 0x1p60, 0, 1, -0x1p60, 0, 1, 0, 0}, []float64{1, 1, 1}, []float64{1, 1, 0}},
		{[]float64{1, 0, 0x1p-53, 0, 1, 0x1p-53, 0, 1, 0, 0}, []float64{1, 1, 1}, []float64{1, 1, 1 - 0x1p-52}},
		{[]float64{1, 0, 0, 1, 0, 0}, []float64{1, minusZero}, []float64{1, minusZero}},
		{[]float64{1, minusZero, 0, 1, 0, 0}, []float64{1, minusZero}, []float64{1, 0}},
		{[]float64{1, 6, 0}, []float64{math.MaxFloat64}, []float64{math.MaxFloat64}},
		{[]float64{greatest, 6, 0}, []float64{least}, []float64{0}},
	} {
		f := api.Factor{Cols: len(c.v), Tri: c.tri, Rows: 4}
		if w, err := Forward(f, c.v); err != api.OK || !sameList(w, c.want) {
			t.Errorf("Forward(%v, %v): %v, %d, not %v", f, c.v, w, err, c.want)
		}
		holdForward(t, f, c.v)
	}
}

// P16.2: bit by bit, of all kinds of triangles and numbers.
func TestForwardCountsOneByOne(t *testing.T) {
	seed := drawer(2)
	count := map[api.Errno]int{}
	for cols := 1; cols <= 6; cols++ {
		for _, width := range []int{0, 1, 20, 200, 419} {
			for n := range 200 {
				f, v := seed.factor(cols, width), seed.list(cols, width)
				count[holdForward(t, f, v)]++
				count[holdForward(t, scaled(f, -1060), v)]++
				count[holdForward(t, f, seed.list(cols, 1020))]++
				if n%4 == 0 {
					i := int(seed.next() % uint64(cols))
					count[holdForward(t, changed(f, i, i, 0), v)]++
					count[holdForward(t, changed(f, i, i, math.Ldexp(1, -int(600+seed.next()%475))), v)]++
					v[i] = []float64{infinity, -infinity, math.NaN()}[seed.next()%3]
					count[holdForward(t, f, v)]++
				}
			}
		}
	}
	if count[api.OK] < 8000 || count[api.ErrSing] < 1000 || count[api.ErrRange] < 2000 || len(count) != 3 {
		t.Errorf("%v", count)
	}
}

func refusesForward(t *testing.T, f api.Factor, v []float64, want api.Errno) {
	t.Helper()
	if w, err := Forward(f, v); err != want || len(w) != 0 {
		t.Errorf("Forward(%v, %v): %v, %d, not %d", f, v, w, err, want)
	}
}

// P16.2: each error, ahead of all that are named later.
func TestForwardRefuses(t *testing.T) {
	for _, f := range wrong() {
		for n := range 8 {
			refusesForward(t, f, make([]float64, n), api.ErrArg)
		}
		refusesForward(t, f, nil, api.ErrArg)
	}
	for cols := 1; cols <= 6; cols++ {
		ones := slices.Repeat([]float64{1}, cols)
		refusesForward(t, empty(cols), ones, api.ErrSing)
		for n := range 10 {
			if n != cols {
				for _, f := range []api.Factor{filled(cols), empty(cols), diagonal(cols, least, 1)} {
					refusesForward(t, f, make([]float64, n), api.ErrArg)
					refusesForward(t, f, slices.Repeat([]float64{infinity}, n), api.ErrArg)
				}
			}
		}
		refusesForward(t, filled(cols), nil, api.ErrArg)
		for i := range cols {
			refusesForward(t, changed(filled(cols), i, i, 0), ones, api.ErrSing)
			refusesForward(t, changed(filled(cols), i, i, 0), slices.Repeat([]float64{math.NaN()}, cols), api.ErrSing)
			refusesForward(t, changed(diagonal(cols, least, 1), i, i, 0), ones, api.ErrSing)
			refusesForward(t, changed(diagonal(cols, 1, 1), i, i, least), ones, api.ErrRange)
			for _, x := range []float64{infinity, -infinity, math.NaN()} {
				v := slices.Clone(ones)
				v[i] = x
				refusesForward(t, diagonal(cols, 1, 1), v, api.ErrRange)
				refusesForward(t, filled(cols), v, api.ErrRange)
			}
			for j := i + 1; j < cols; j++ {
				f := changed(diagonal(cols, 1, 1), i, i, math.Ldexp(1, -700))
				refusesForward(t, changed(f, i, j, greatest), ones, api.ErrRange)
				refusesForward(t, changed(f, i, j, -greatest), ones, api.ErrRange)
				if holdForward(t, f, ones) != api.OK || holdForward(t, changed(f, i, j, 1), ones) != api.OK {
					t.Errorf("Forward(%v, ..) is refused", f)
				}
			}
		}
		if holdForward(t, changed(filled(cols), cols, cols, 0), ones) != api.OK {
			t.Errorf("%d columns: the last entry is of moment", cols)
		}
	}
}

// ridgeByWords says P16.3 over again.
func ridgeByWords(f api.Factor, mu float64) ([]float64, api.Errno) {
	g, err := absorb.Ridge(f, mu)
	if err != api.OK {
		return nil, err
	}
	return backByWords(g)
}

func holdRidge(t *testing.T, f api.Factor, mu float64) api.Errno {
	t.Helper()
	x, err := Ridge(f, mu)
	want, wrong := ridgeByWords(f, mu)
	if err != wrong || !sameList(x, want) {
		t.Errorf("Ridge(%v, %v): %v, %d, not %v, %d", f, mu, x, err, want, wrong)
	}
	return err
}

// P16.3: numbers by hand, the document's examples of the whole among them.
func TestRidge(t *testing.T) {
	one := api.Factor{Cols: 1, Tri: []float64{3, 10, 2}, Rows: 2}
	for _, c := range []struct {
		f    api.Factor
		mu   float64
		want []float64
	}{
		{one, 0, []float64{10.0 / 3}},
		// The root of 9 and 16 is 5; 10 times 3/5 is 6, divided by 5.
		{one, 4, []float64{1.2}},
		{empty(1), 1, []float64{0}},
		{empty(3), 1, []float64{0, 0, 0}},
		{diagonal(2, 3, 5), 4, []float64{0.6, 0.6}},
		{api.Factor{Cols: 2, Tri: []float64{2, 1, 5, 4, 8, 3}}, 0, []float64{1.5, 2}},
		// Two columns that are the same share what there is: twice the one and once the other is 2, both ways around.
		{api.Factor{Cols: 2, Tri: []float64{1, 1, 2, 0, 0, 0}}, 1, []float64{2.0 / 3, 2.0 / 3}},
		{one, highest, []float64{0}},
		{one, lowest, []float64{10.0 / 3}},
	} {
		x, err := Ridge(c.f, c.mu)
		nearly := slices.EqualFunc(x, c.want, func(a, b float64) bool { return math.Abs(a-b) <= 1e-14 })
		if err != api.OK || !nearly {
			t.Errorf("Ridge(%v, %v): %v, %d, not %v", c.f, c.mu, x, err, c.want)
		}
		holdRidge(t, c.f, c.mu)
	}
}

// P16.3: bit by bit, by absorb.Ridge; without a ridge it is Back.
func TestRidgeIsBackBehindIt(t *testing.T) {
	seed := drawer(3)
	count := map[api.Errno]int{}
	for cols := 1; cols <= 6; cols++ {
		for _, width := range []int{0, 5, 100, 399, 419} {
			for n := range 100 {
				f := seed.factor(cols, width)
				if n%3 == 0 {
					i := int(seed.next() % uint64(cols))
					f = changed(f, i, i, 0)
				}
				for _, mu := range []float64{math.Abs(seed.float(min(width, 399))), lowest, highest, 1} {
					count[holdRidge(t, f, mu)]++
				}
				x, err := Ridge(f, 0)
				if want, wrong := backByWords(f); err != wrong || !sameList(x, want) {
					t.Errorf("Ridge(%v, 0): %v, %d, not %v, %d", f, x, err, want, wrong)
				}
			}
		}
	}
	if count[api.OK] < 5000 || count[api.ErrRange] < 10 || count[api.ErrSing] < 50 {
		t.Errorf("%v", count)
	}
}

func refusesRidge(t *testing.T, f api.Factor, mu float64, want api.Errno) {
	t.Helper()
	if x, err := Ridge(f, mu); err != want || len(x) != 0 {
		t.Errorf("Ridge(%v, %v): %v, %d, not %d", f, mu, x, err, want)
	}
}

// P16.3: each error of absorb.Ridge, ahead of each of Back.
func TestRidgeRefuses(t *testing.T) {
	outside := []float64{minusZero, -1, -least, least, -lowest, math.Nextafter(lowest, 0), math.Nextafter(highest, infinity), -highest, infinity, -infinity, math.NaN(), math.MaxFloat64}
	for _, f := range wrong() {
		for _, mu := range append(slices.Clone(outside), 0, 1) {
			refusesRidge(t, f, mu, api.ErrArg)
		}
	}
	for cols := 1; cols <= 6; cols++ {
		for _, mu := range outside {
			for _, f := range []api.Factor{filled(cols), empty(cols), counted(filled(cols), 200, 4096), diagonal(cols, least, 1)} {
				refusesRidge(t, f, mu, api.ErrRange)
			}
		}
		last := 4096 - cols*(cols+1)
		for _, mu := range []float64{lowest, 1, highest} {
			for _, f := range []api.Factor{filled(cols), empty(cols)} {
				refusesRidge(t, counted(f, 0, last+1), mu, api.ErrFull)
				refusesRidge(t, counted(f, 200, 4096), mu, api.ErrFull)
				if holdRidge(t, counted(f, 200, last), mu) != api.OK {
					t.Errorf("Ridge of %d rotations is refused", last)
				}
			}
		}
		// Without a ridge there are no rotations.
		if holdRidge(t, counted(filled(cols), 200, 4096), 0) != api.OK {
			t.Errorf("Ridge of 4096 rotations, without a ridge, is refused")
		}
		refusesRidge(t, empty(cols), 0, api.ErrSing)
		refusesRidge(t, counted(empty(cols), 200, 4096), 0, api.ErrSing)
		refusesRidge(t, diagonal(cols, least, 1), 0, api.ErrRange)
		// What is turned out of row 0 is too great beside what is in the last one.
		large := changed(changed(diagonal(cols, 1, 1), 0, cols, greatest), cols, cols, greatest)
		refusesRidge(t, large, 1, api.ErrRange)
		// A product that is too great for Back, of what is not for absorb.Ridge.
		if cols > 1 {
			steep := changed(diagonal(cols, lowest, 0), cols-2, cols-2, highest)
			steep = changed(changed(steep, cols-1, cols, greatest/4), cols-2, cols-1, greatest/4)
			if g, err := absorb.Ridge(steep, lowest); err != api.OK {
				t.Errorf("absorb.Ridge(%v, %v): %v, %d", steep, lowest, g, err)
			}
			refusesRidge(t, steep, lowest, api.ErrRange)
		}
	}
}

// P16.4: with a ridge other than 0 it is never ErrSing.
func TestRidgeIsNotSingular(t *testing.T) {
	seed := drawer(4)
	for cols := 1; cols <= 6; cols++ {
		for _, mu := range []float64{lowest, math.Nextafter(lowest, 1), 1e-30, 1, 7, 1e30, highest} {
			l := []api.Factor{empty(cols), filled(cols), diagonal(cols, 0, 1), diagonal(cols, least, 1), diagonal(cols, least, 0), diagonal(cols, greatest/64, 1)}
			for i := range cols {
				l = append(l, changed(filled(cols), i, i, 0), changed(filled(cols), i, i, least), changed(diagonal(cols, greatest/64, 1), i, i, 0))
			}
			for _, width := range []int{0, 20, 300, 415} {
				for range 10 {
					f := seed.factor(cols, width)
					for i := range cols {
						if seed.next()%2 == 0 {
							f = changed(f, i, i, 0)
						}
					}
					l = append(l, f, scaled(f, -900))
				}
			}
			for _, f := range l {
				if err := holdRidge(t, f, mu); err != api.OK && err != api.ErrRange {
					t.Errorf("Ridge(%v, %v): %d", f, mu, err)
				}
			}
		}
	}
}

func ratOf(x float64) *big.Rat { return new(big.Rat).SetFloat64(x) }

// holdRow tells whether the sum of the products of entries and x is as near to want as P16.4 says, by the library's numbers.
func holdRow(cols int, entries, x []float64, want, diag float64) bool {
	sum, sizes := new(big.Rat), new(big.Rat)
	for k, entry := range entries {
		product := new(big.Rat).Mul(ratOf(entry), ratOf(x[k]))
		sum.Add(sum, product)
		sizes.Add(sizes, product.Abs(product))
	}
	off := sum.Sub(sum, ratOf(want))
	unit := new(big.Rat).Mul(big.NewRat(int64(cols+2), 1), ratOf(0x1p-53))
	bound := unit.Mul(unit, sizes)
	tiny := new(big.Rat).Add(big.NewRat(int64(cols), 1), ratOf(diag))
	bound.Add(bound, tiny.Mul(tiny, ratOf(0x1p-1070)))
	return off.Abs(off).Cmp(bound) <= 0
}

// holdNear holds answers that were told against P16.4, and tells how many were.
func holdNear(t *testing.T, f api.Factor, v []float64) int {
	t.Helper()
	m, n, done := square(f), f.Cols, 0
	if x, err := Back(f); err == api.OK {
		done++
		for i := range n {
			if !holdRow(n, m[i][i:n], x[i:], m[i][n], m[i][i]) {
				t.Errorf("Back(%v): %v: not near in row %d", f, x, i)
			}
		}
		list, _ := gram.Factor(f)
		if i, is := near.Normal(n, list, list, x, 0); !is {
			t.Errorf("Back(%v): %v: far for column %d", f, x, i)
		}
	}
	if w, err := Forward(f, v); err == api.OK {
		done++
		for i := range n {
			var column []float64
			for k := range i + 1 {
				column = append(column, m[k][i])
			}
			if !holdRow(n, column, w, v[i], m[i][i]) {
				t.Errorf("Forward(%v, %v): %v: not near in row %d", f, v, w, i)
			}
		}
	}
	return done
}

// P16.4: the answers leave little, row by row, and are near to what the factor's Gram list asks for.
func TestAnswersAreNear(t *testing.T) {
	seed := drawer(5)
	done := 0
	for cols := 1; cols <= 6; cols++ {
		for _, width := range []int{0, 1, 10, 60, 200, 419} {
			for range 40 {
				f := seed.factor(cols, width)
				done += holdNear(t, f, seed.list(cols, width))
				done += holdNear(t, scaled(f, -560), seed.list(cols, width))
				done += holdNear(t, scaled(f, -1060), seed.list(cols, 1000))
				i := int(seed.next() % uint64(cols))
				done += holdNear(t, changed(f, i, i, least), scaled(f, -1070).Tri[:cols])
			}
		}
	}
	if done < 6000 {
		t.Errorf("only %d were held", done)
	}
}

// P16.4: of rows, with a ridge or without, answers are near to what rows and ridge ask for.
func TestAnswersOfRowsAreNear(t *testing.T) {
	seed := drawer(6)
	done := 0
	for cols := 1; cols <= 6; cols++ {
		for _, width := range []int{0, 5, 40, 399} {
			for n := range 25 {
				l := seed.rows(cols, n, width)
				f, _, _ := absorb.All(empty(cols), l)
				for _, mu := range []float64{0, 1, lowest, math.Abs(seed.nonzero(width))} {
					x, err := Ridge(f, mu)
					if err != api.OK {
						continue
					}
					done++
					ridge := make([]api.Row, cols)
					for j := range ridge {
						ridge[j].X = make([]float64, cols)
						ridge[j].X[j] = mu
					}
					list, _ := gram.Rows(cols, append(slices.Clone(l), ridge...))
					if i, is := near.Normal(cols, list, list, x, f.Turns+cols*(cols+1)); !is {
						t.Errorf("Ridge(%v, %v): %v: far for column %d", f, mu, x, i)
					}
				}
			}
		}
	}
	if done < 1500 {
		t.Errorf("only %d were held", done)
	}
}

// R5: what is handed in is not changed, and each answer is memory of its own.
func TestAnswersAreNewMemory(t *testing.T) {
	for cols := 1; cols <= 6; cols++ {
		f, v := filled(cols), slices.Repeat([]float64{3}, cols)
		for i, call := range []func() []float64{
			func() []float64 { x, _ := Back(f); return x },
			func() []float64 { w, _ := Forward(f, v); return w },
			func() []float64 { x, _ := Ridge(f, 0); return x },
			func() []float64 { x, _ := Ridge(f, 2); return x },
		} {
			first := call()
			again := slices.Clone(first)
			clear(first)
			if len(again) != cols || !sameList(call(), again) || !sameList(f.Tri, filled(cols).Tri) || !sameList(v, slices.Repeat([]float64{3}, cols)) {
				t.Fatalf("call %d: what was handed in is changed: %v, %v", i, f, v)
			}
		}
	}
}
