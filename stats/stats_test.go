package stats

import (
	"math"
	"math/big"
	"slices"
	"testing"

	"levelling/absorb"
	"levelling/api"
	"levelling/dyad"
	"levelling/gram"
	"levelling/solve"
)

const least = math.SmallestNonzeroFloat64

var (
	minusZero = math.Copysign(0, -1)
	infinity  = math.Inf(1)
	// A triangle's entries end here.
	greatest = math.Ldexp(1, 420)
	tooGreat = math.Nextafter(greatest, infinity)
)

func sameBits(a, b float64) bool { return math.Float64bits(a) == math.Float64bits(b) }

func sameList(a, b []float64) bool { return slices.EqualFunc(a, b, sameBits) }

func sameStats(a, b api.Stats) bool {
	return a.Free == b.Free && sameBits(a.Rest, b.Rest) && sameBits(a.Total, b.Total) && sameBits(a.Var, b.Var) && sameBits(a.Fit, b.Fit)
}

func copied(f api.Factor) api.Factor {
	f.Tri = slices.Clone(f.Tri)
	return f
}

func size(cols int) int { return (cols + 1) * (cols + 2) / 2 }

func place(cols, i, j int) int {
	at := 0
	for row := range i {
		at += cols + 1 - row
	}
	return at + j - i
}

// square is f's triangle with all its places.
func square(f api.Factor) [][]float64 {
	m := make([][]float64, f.Cols+1)
	at := 0
	for i := range m {
		m[i] = make([]float64, f.Cols+1)
		at += copy(m[i][i:], f.Tri[at:])
	}
	return m
}

// changed is f with x in the place of row i, column j.
func changed(f api.Factor, i, j int, x float64) api.Factor {
	f = copied(f)
	f.Tri[place(f.Cols, i, j)] = x
	return f
}

// counted is f with other numbers of rows and rotations.
func counted(f api.Factor, rows, turns int) api.Factor {
	f.Rows, f.Turns = rows, turns
	return f
}

// filled is a factor of so many columns, no two entries of which are the same.
func filled(cols int) api.Factor {
	f := api.Factor{Cols: cols, Rows: 9, Turns: 5}
	for at := range size(cols) {
		f.Tri = append(f.Tri, -0.5-float64(at))
	}
	for i := range cols + 1 {
		f.Tri[place(cols, i, i)] *= -1
	}
	return f
}

// lastColumn is a factor whose last column has these entries, its diagonal ones, and zeros else.
func lastColumn(rows int, entries ...float64) api.Factor {
	cols := len(entries) - 1
	f := api.Factor{Cols: cols, Tri: make([]float64, size(cols)), Rows: rows}
	for i, x := range entries {
		f.Tri[place(cols, i, i)] = 1
		f.Tri[place(cols, i, cols)] = x
	}
	return f
}

// wrong has factors that may not be.
func wrong() []api.Factor {
	l := []api.Factor{{}, {Cols: 1}, {Cols: 1, Rows: 9}, {Tri: make([]float64, 3), Rows: 9}, {Cols: 7, Tri: make([]float64, 36), Rows: 9}, {Cols: -1, Tri: make([]float64, 1), Rows: 9}, {Cols: math.MaxInt}, {Cols: math.MinInt, Rows: math.MaxInt}, {Cols: math.MaxInt - 1, Tri: make([]float64, 3), Rows: math.MinInt}}
	for cols := 1; cols <= 6; cols++ {
		f := filled(cols)
		l = append(l, changed(f, 0, 0, minusZero), changed(f, cols, cols, -1), changed(f, 0, cols, tooGreat), changed(f, 0, 1, math.NaN()), changed(f, cols, cols, infinity))
		l = append(l, counted(f, -1, 0), counted(f, 201, 0), counted(f, 9, -1), counted(f, 9, 4097), counted(f, math.MaxInt, 0), counted(f, math.MinInt, 0), counted(f, 0, math.MinInt))
		l = append(l, api.Factor{Cols: cols, Tri: f.Tri[1:], Rows: 9}, api.Factor{Cols: cols, Tri: append(slices.Clone(f.Tri), 1), Rows: 9}, api.Factor{Cols: cols%6 + 1, Tri: f.Tri, Rows: 9})
	}
	return l
}

// drawer hands out floats, the same ones again for each start.
type drawer uint64

func (d *drawer) next() uint64 {
	*d ^= *d << 13
	*d ^= *d >> 7
	*d ^= *d << 17
	return uint64(*d)
}

// float has any fraction and sign; its exponent is at most width away from 0. Some are zeros.
func (d *drawer) float(width int) float64 {
	if d.next()%8 == 0 {
		return math.Copysign(0, float64(int64(d.next())))
	}
	x := math.Ldexp(1+float64(d.next()>>12)/(1<<52), int(d.next()%uint64(2*width+1))-width)
	return math.Copysign(x, float64(int64(d.next())))
}

func (d *drawer) list(n, width int) []float64 {
	l := make([]float64, n)
	for i := range l {
		l[i] = d.float(width)
	}
	return l
}

// factor has more rows than columns, if width is at most 419.
func (d *drawer) factor(cols, width int) api.Factor {
	f := api.Factor{Cols: cols, Tri: d.list(size(cols), width), Rows: cols + 1 + int(d.next()%uint64(200-cols)), Turns: 1}
	for i := range cols + 1 {
		at := place(cols, i, i)
		f.Tri[at] = math.Abs(f.Tri[at])
	}
	return f
}

// scaled is f, each entry times 2 to the power of k, rounded.
func scaled(f api.Factor, k int) api.Factor {
	f = copied(f)
	for i := range f.Tri {
		f.Tri[i] = math.Ldexp(f.Tri[i], k)
	}
	return f
}

// ofByWords says P17.1 over again, of a factor that may be.
func ofByWords(f api.Factor) (api.Stats, api.Errno) {
	if f.Rows <= f.Cols {
		return api.Stats{}, api.ErrFew
	}
	m, n := square(f), f.Cols
	s := api.Stats{Free: f.Rows - n, Rest: float64(m[n][n] * m[n][n])}
	for i := 0; i <= n; i++ {
		product := float64(m[i][n] * m[i][n])
		s.Total = float64(s.Total + product)
	}
	s.Var = float64(s.Rest / float64(s.Free))
	if s.Total != 0 {
		quotient := float64(s.Rest / s.Total)
		s.Fit = float64(1 - quotient)
	}
	return s, api.OK
}

func holdOf(t *testing.T, f api.Factor) api.Stats {
	t.Helper()
	s, err := Of(f)
	want, wrong := ofByWords(f)
	if err != wrong || !sameStats(s, want) {
		t.Errorf("Of(%v): %v, %d, not %v, %d", f, s, err, want, wrong)
	}
	x, err := Spread(f)
	if err != wrong || !sameBits(x, math.Sqrt(want.Var)) {
		t.Errorf("Spread(%v): %v, %d, not the root of %v, %d", f, x, err, want.Var, wrong)
	}
	return s
}

// P17.1, P17.2: the document's example, and numbers by hand.
func TestOf(t *testing.T) {
	for _, c := range []struct {
		f    api.Factor
		want api.Stats
	}{
		{api.Factor{Cols: 2, Tri: []float64{2, 1, 5, 4, 8, 3}, Rows: 4}, api.Stats{Free: 2, Rest: 9, Total: 98, Var: 4.5, Fit: 89.0 / 98}},
		{api.Factor{Cols: 1, Tri: []float64{3, 4, 0}, Rows: 2}, api.Stats{Free: 1, Total: 16, Fit: 1}},
		{api.Factor{Cols: 1, Tri: []float64{3, minusZero, 0}, Rows: 2}, api.Stats{Free: 1}},
		{api.Factor{Cols: 1, Tri: []float64{3, 0, 4}, Rows: 200}, api.Stats{Free: 199, Rest: 16, Total: 16, Var: 16.0 / 199}},
		{api.Factor{Cols: 1, Tri: []float64{0, 4, 4}, Rows: 5}, api.Stats{Free: 4, Rest: 16, Total: 32, Var: 4, Fit: 0.5}},
		{lastColumn(9, 1, 1, 1), api.Stats{Free: 7, Rest: 1, Total: 3, Var: 1.0 / 7, Fit: 2.0 / 3}},
		// From 2^54 on, 1 is lost each time; the other way around, 3 would count.
		{lastColumn(4, 0x1p27, 1, 1, 1), api.Stats{Free: 1, Rest: 1, Total: 0x1p54, Var: 1, Fit: 1}},
		{lastColumn(4, 1, 1, 1, 0x1p27), api.Stats{Free: 1, Rest: 0x1p54, Total: 0x1p54 + 4, Var: 0x1p54, Fit: 0x1p-52}},
		// The second square is rounded ahead of being added, down to half way between two sums.
		{lastColumn(2, 1, 1+0x1p-26+0x1p-51), api.Stats{Free: 1, Rest: 1 + 0x1p-25 + 0x5p-52, Total: 2 + 0x1p-25 + 0x1p-50, Var: 1 + 0x1p-25 + 0x5p-52, Fit: 0.5 - 0x1p-27}},
		// Squares that vanish are no 0 of the column, but of the sum.
		{lastColumn(3, -least, least), api.Stats{Free: 2}},
		{lastColumn(3, 0x1p-538, 0x1p-538), api.Stats{Free: 2}},
		{lastColumn(3, 0, 0x1p-537), api.Stats{Free: 2, Rest: least, Total: least}},
		{lastColumn(3, 0x1p-537, 0x1p-538), api.Stats{Free: 2, Total: least, Fit: 1}},
		{lastColumn(200, greatest, -greatest, greatest, greatest, greatest, greatest, greatest), api.Stats{Free: 194, Rest: math.Ldexp(1, 840), Total: math.Ldexp(7, 840), Var: math.Ldexp(1.0/194, 840), Fit: 1 - 1.0/7}},
	} {
		s, err := Of(c.f)
		// By hand Fit is rounded once, not twice: its bits are held below.
		off := math.Abs(s.Fit - c.want.Fit)
		c.want.Fit = s.Fit
		if err != api.OK || !sameStats(s, c.want) || !(off <= 0x1p-52) {
			t.Errorf("Of(%v): %v, %d, not %v", c.f, s, err, c.want)
		}
		holdOf(t, c.f)
	}
}

// P17.1, P17.2: bit by bit, of all kinds of triangles, at each number of rows.
func TestOfCountsOneByOne(t *testing.T) {
	seed := drawer(1)
	inner := 0
	for cols := 1; cols <= 6; cols++ {
		for _, width := range []int{0, 1, 20, 200, 419} {
			for range 200 {
				f := seed.factor(cols, width)
				for _, g := range []api.Factor{f, scaled(f, -530), scaled(f, -1060)} {
					if s := holdOf(t, g); s.Fit > 0 && s.Fit < 1 {
						inner++
					}
				}
			}
		}
		for rows := range 201 {
			s := holdOf(t, counted(filled(cols), rows, 4096))
			if rows > cols && s.Free != rows-cols || rows <= cols && s.Free != 0 {
				t.Errorf("%d columns, %d rows: %v", cols, rows, s)
			}
		}
	}
	if inner < 5000 {
		t.Errorf("only %d fit in part", inner)
	}
}

func refusesOf(t *testing.T, f api.Factor, want api.Errno) {
	t.Helper()
	if s, err := Of(f); err != want || !sameStats(s, api.Stats{}) {
		t.Errorf("Of(%v): %v, %d, not %d", f, s, err, want)
	}
	if x, err := Spread(f); err != want || !sameBits(x, 0) {
		t.Errorf("Spread(%v): %v, %d, not %d", f, x, err, want)
	}
}

// P17.1, P17.2: each error, ahead of the one that is named later.
func TestOfRefuses(t *testing.T) {
	for _, f := range wrong() {
		refusesOf(t, f, api.ErrArg)
	}
	for cols := 1; cols <= 6; cols++ {
		for rows := range cols + 1 {
			refusesOf(t, counted(filled(cols), rows, 0), api.ErrFew)
			refusesOf(t, counted(filled(cols), rows, 4096), api.ErrFew)
			refusesOf(t, changed(counted(filled(cols), rows, 0), 0, 0, minusZero), api.ErrArg)
		}
		if _, err := Of(counted(filled(cols), cols+1, 0)); err != api.OK {
			t.Errorf("%d columns, one row more: %d", cols, err)
		}
	}
}

// missByWords says P17.3 over again, of a factor that may be and as many answers as columns.
func missByWords(f api.Factor, x []float64) (float64, api.Errno) {
	m, n := square(f), f.Cols
	sum := 0.0
	for i := 0; i < n; i++ {
		rest := m[i][n]
		for k := i; k <= n-1; k++ {
			product := float64(m[i][k] * x[k])
			rest = float64(rest - product)
		}
		product := float64(rest * rest)
		sum = float64(sum + product)
	}
	product := float64(m[n][n] * m[n][n])
	sum = float64(sum + product)
	if sum-sum != 0 {
		return 0, api.ErrRange
	}
	return sum, api.OK
}

func holdMiss(t *testing.T, f api.Factor, x []float64) api.Errno {
	t.Helper()
	miss, err := Miss(f, x)
	want, wrong := missByWords(f, x)
	if err != wrong || !sameBits(miss, want) {
		t.Errorf("Miss(%v, %v): %v, %d, not %v, %d", f, x, miss, err, want, wrong)
	}
	return err
}

// P17.3: numbers by hand.
func TestMiss(t *testing.T) {
	two := api.Factor{Cols: 2, Tri: []float64{2, 1, 5, 4, 8, 3}, Rows: 4}
	three := api.Factor{Cols: 3, Tri: []float64{1, 2, 3, 14, 2, -1, 1, 4, 12, 7}}
	for _, c := range []struct {
		f    api.Factor
		x    []float64
		want float64
	}{
		{two, []float64{1.5, 2}, 9},
		{two, []float64{0, 2}, 9 + 9},
		{two, []float64{0, 0}, 98},
		{two, []float64{1, 1}, 4 + 16 + 9},
		{three, []float64{1, 2, 3}, 49},
		{three, []float64{2, 2, 3}, 50},
		{three, []float64{1, 1, 3}, 4 + 4 + 49},
		{three, []float64{1, 2, 4}, 9 + 1 + 16 + 49},
		{three, []float64{minusZero, minusZero, minusZero}, 14*14 + 1 + 144 + 49},
		// Few rows are enough, or none.
		{api.Factor{Cols: 1, Tri: []float64{0, 0, 0}}, []float64{5}, 0},
		{api.Factor{Cols: 1, Tri: []float64{0, 0, 0}}, []float64{math.MaxFloat64}, 0},
		{api.Factor{Cols: 1, Tri: []float64{1, 1, 0}}, []float64{math.Ldexp(1, 511)}, math.Ldexp(1, 1022)},
		// The product is rounded to 1 ahead of being taken.
		{api.Factor{Cols: 1, Tri: []float64{1 + 0x1p-30, 1, 0}}, []float64{1 - 0x1p-30}, 0},
		// From 1 on, 2^60 is taken first, and 1 is lost.
		{api.Factor{Cols: 2, Tri: []float64{0x1p60, -0x1p60, 1, 0, 0, 0}}, []float64{1, 1}, 0},
		// The last entry's square comes behind all: the three of 1 are lost one by one.
		{lastColumn(0, 0x1p27, 1, 1, 1), []float64{0, 0, 0}, 0x1p54},
		{lastColumn(0, 1, 1, 1, 0x1p27), []float64{0, 0, 0}, 0x1p54 + 4},
	} {
		if miss, err := Miss(c.f, c.x); err != api.OK || !sameBits(miss, c.want) {
			t.Errorf("Miss(%v, %v): %v, %d, not %v", c.f, c.x, miss, err, c.want)
		}
		holdMiss(t, c.f, c.x)
	}
}

// P17.3: bit by bit, of all kinds of triangles and answers.
func TestMissCountsOneByOne(t *testing.T) {
	seed := drawer(2)
	count := map[api.Errno]int{}
	for cols := 1; cols <= 6; cols++ {
		for _, width := range []int{0, 1, 20, 200, 419} {
			for n := range 200 {
				f, x := seed.factor(cols, width), seed.list(cols, width)
				count[holdMiss(t, f, x)]++
				count[holdMiss(t, scaled(f, -530), x)]++
				count[holdMiss(t, f, seed.list(cols, 1020))]++
				count[holdMiss(t, counted(f, n, 0), make([]float64, cols))]++
				if best, err := solve.Back(f); err == api.OK {
					count[holdMiss(t, f, best)]++
				}
				x[seed.next()%uint64(cols)] = []float64{infinity, -infinity, math.NaN()}[seed.next()%3]
				count[holdMiss(t, f, x)]++
			}
		}
	}
	if count[api.OK] < 15000 || count[api.ErrRange] < 6000 || len(count) != 2 {
		t.Errorf("%v", count)
	}
}

func refusesMiss(t *testing.T, f api.Factor, x []float64, want api.Errno) {
	t.Helper()
	if miss, err := Miss(f, x); err != want || !sameBits(miss, 0) {
		t.Errorf("Miss(%v, %v): %v, %d, not %d", f, x, miss, err, want)
	}
}

// P17.3: each error, ahead of the one that is named later.
func TestMissRefuses(t *testing.T) {
	for _, f := range wrong() {
		refusesMiss(t, f, nil, api.ErrArg)
		for n := range 9 {
			refusesMiss(t, f, make([]float64, n), api.ErrArg)
			refusesMiss(t, f, slices.Repeat([]float64{math.NaN()}, n), api.ErrArg)
		}
	}
	for cols := 1; cols <= 6; cols++ {
		f := filled(cols)
		refusesMiss(t, f, nil, api.ErrArg)
		for n := range 10 {
			if n != cols {
				refusesMiss(t, f, make([]float64, n), api.ErrArg)
				refusesMiss(t, f, slices.Repeat([]float64{infinity}, n), api.ErrArg)
			}
		}
		for k := range cols {
			for _, bad := range []float64{infinity, -infinity, math.NaN(), math.MaxFloat64, -math.MaxFloat64} {
				x := make([]float64, cols)
				x[k] = bad
				refusesMiss(t, f, x, api.ErrRange)
			}
			// What is no number is none by a product of 0, too.
			x := make([]float64, cols)
			x[k] = infinity
			refusesMiss(t, api.Factor{Cols: cols, Tri: make([]float64, size(cols))}, x, api.ErrRange)
			// A square is too great where what is squared is not.
			x[k] = math.Ldexp(1, 512)
			refusesMiss(t, lastColumn(0, make([]float64, cols+1)...), x, api.ErrRange)
			x[k] = math.Nextafter(x[k], 0)
			if holdMiss(t, lastColumn(0, make([]float64, cols+1)...), x) != api.OK {
				t.Errorf("%d columns, %v: refused", cols, x)
			}
		}
		if cols > 1 {
			// Two squares are too great together; two products that are too great leave NaN.
			refusesMiss(t, lastColumn(0, make([]float64, cols+1)...), slices.Repeat([]float64{0x1.8p511}, cols), api.ErrRange)
			x := make([]float64, cols)
			x[0], x[1] = math.MaxFloat64, math.MaxFloat64
			refusesMiss(t, changed(changed(f, 0, 0, 2), 0, 1, -2), x, api.ErrRange)
		}
	}
}

func ratOf(x float64) *big.Rat { return new(big.Rat).SetFloat64(x) }

// ratOfDyad is d as a number of the library.
func ratOfDyad(d api.Dyad) *big.Rat {
	n := new(big.Int)
	for i := len(d.N) - 1; i >= 0; i-- {
		n.Lsh(n, 32).Or(n, big.NewInt(int64(d.N[i])))
	}
	if d.Exp >= 0 {
		return new(big.Rat).SetInt(n.Lsh(n, uint(d.Exp)))
	}
	return new(big.Rat).SetFrac(n, new(big.Int).Lsh(big.NewInt(1), uint(-d.Exp)))
}

// holdFollowing holds P17.4 of f, and of the answers x.
func holdFollowing(t *testing.T, f api.Factor, x []float64) {
	t.Helper()
	s, err := Of(f)
	if err != api.OK {
		t.Fatalf("Of(%v): %d", f, err)
	}
	if !(s.Rest >= 0 && s.Rest <= s.Total && s.Fit >= 0 && s.Fit <= 1) || math.Signbit(s.Fit) {
		t.Errorf("Of(%v): %v", f, s)
	}
	if miss, err := Miss(f, x); err == api.OK && !(miss >= s.Rest) {
		t.Errorf("Miss(%v, %v): %v is below %v", f, x, miss, s.Rest)
	}
	list, is := gram.Factor(f)
	exact := list[len(list)-1]
	if !is || !dyad.Check(exact) {
		t.Fatalf("gram.Factor(%v): %v", f, list)
	}
	want := ratOfDyad(exact)
	off := new(big.Rat).Sub(ratOf(s.Total), want)
	bound := new(big.Rat).Mul(ratOf(float64(f.Cols+3)*0x1p-53), want)
	if off.Abs(off).Cmp(bound.Add(bound, ratOf(0x1p-1060))) > 0 {
		t.Errorf("Of(%v): a total of %v is far from the Gram list's", f, s.Total)
	}
}

// P17.4: what follows, of triangles of all kinds, and of answers that are good and bad.
func TestWhatFollows(t *testing.T) {
	seed := drawer(3)
	for cols := 1; cols <= 6; cols++ {
		for _, width := range []int{0, 1, 20, 200, 419} {
			for range 40 {
				f := seed.factor(cols, width)
				for _, g := range []api.Factor{f, scaled(f, -530), scaled(f, -1060), changed(f, cols, cols, 0), changed(f, cols, cols, greatest)} {
					holdFollowing(t, g, seed.list(cols, width))
					if best, err := solve.Back(g); err == api.OK {
						holdFollowing(t, g, best)
					}
				}
			}
		}
		holdFollowing(t, api.Factor{Cols: cols, Tri: make([]float64, size(cols)), Rows: 200}, make([]float64, cols))
		holdFollowing(t, lastColumn(200, slices.Repeat([]float64{greatest}, cols+1)...), slices.Repeat([]float64{greatest}, cols))
		holdFollowing(t, lastColumn(200, slices.Repeat([]float64{0x1.7p-537}, cols+1)...), make([]float64, cols))
	}
}

// P17.1, P17.3: of rows, what is told is what the rows themselves leave over, nearly.
func TestOfRowsLeaveOver(t *testing.T) {
	f := api.Factor{Cols: 2, Tri: make([]float64, 6)}
	l := []api.Row{{X: []float64{1, 1}, Y: 3}, {X: []float64{1, 2}, Y: 5}, {X: []float64{1, 3}, Y: 4}, {X: []float64{1, 4}, Y: 8}, {X: []float64{1, 5}, Y: 9}}
	f, n, err := absorb.All(f, l)
	if n != len(l) || err != api.OK {
		t.Fatalf("%d rows are in: %d", n, err)
	}
	for _, x := range [][]float64{{0, 0}, {1, 1}, {-2, 3.5}, {1.3, 1.5}} {
		left := 0.0
		for _, r := range l {
			d := r.Y - r.X[0]*x[0] - r.X[1]*x[1]
			left += d * d
		}
		if miss, err := Miss(f, x); err != api.OK || math.Abs(miss-left) > 1e-12 {
			t.Errorf("Miss(.., %v): %v, %d, not %v", x, miss, err, left)
		}
	}
	// The best answers are 1.3 and 1.5: they leave 0.2, 0.7, -1.8, 0.7, 0.2 over.
	s, err := Of(f)
	if err != api.OK || s.Free != 3 || math.Abs(s.Rest-4.3) > 1e-12 || math.Abs(s.Total-195) > 1e-12 {
		t.Errorf("Of(%v): %v, %d", f, s, err)
	}
}

// R5: what is handed in is not changed.
func TestNothingIsChanged(t *testing.T) {
	for cols := 1; cols <= 6; cols++ {
		f, x := filled(cols), slices.Repeat([]float64{3}, cols)
		holdOf(t, f)
		holdMiss(t, f, x)
		if !sameList(f.Tri, filled(cols).Tri) || !sameList(x, slices.Repeat([]float64{3}, cols)) {
			t.Errorf("what was handed in is changed: %v, %v", f, x)
		}
	}
}
