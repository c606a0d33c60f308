package absorb

import (
	"math"
	"slices"
	"testing"

	"levelling/api"
	"levelling/givens"
	"levelling/gram"
	"levelling/near"
)

const least = math.SmallestNonzeroFloat64

var (
	minusZero = math.Copysign(0, -1)
	infinity  = math.Inf(1)
	// In ends at these; a triangle's entries at greatest.
	low      = math.Ldexp(1, -400)
	high     = math.Ldexp(1, 400)
	greatest = math.Ldexp(1, 420)
	tooGreat = math.Nextafter(greatest, infinity)
)

// notIn has floats that rows may not have.
var notIn = []float64{math.Nextafter(high, infinity), -math.Nextafter(high, infinity), math.Nextafter(low, 0), -math.Nextafter(low, 0), least, -least, math.MaxFloat64, infinity, -infinity, math.NaN()}

func sameBits(a, b float64) bool { return math.Float64bits(a) == math.Float64bits(b) }

func sameList(a, b []float64) bool { return slices.EqualFunc(a, b, sameBits) }

func sameFactor(a, b api.Factor) bool {
	return a.Cols == b.Cols && a.Rows == b.Rows && a.Turns == b.Turns && sameList(a.Tri, b.Tri)
}

func isZero(f api.Factor) bool { return sameFactor(f, api.Factor{}) }

func copied(f api.Factor) api.Factor {
	f.Tri = slices.Clone(f.Tri)
	return f
}

func size(cols int) int { return (cols + 1) * (cols + 2) / 2 }

func place(cols, i, j int) int {
	at := 0
	for row := range i {
		at += cols + 1 - row
	}
	return at + j - i
}

// empty is a new factor.
func empty(cols int) api.Factor {
	return api.Factor{Cols: cols, Tri: make([]float64, size(cols))}
}

// filled is a factor of so many columns, no two entries of which are the same.
func filled(cols int) api.Factor {
	f := api.Factor{Cols: cols, Rows: 3, Turns: 5}
	for at := range size(cols) {
		f.Tri = append(f.Tri, -0.5-float64(at))
	}
	for i := range cols + 1 {
		f.Tri[place(cols, i, i)] *= -1
	}
	return f
}

// changed is f with x in the place of row i, column j.
func changed(f api.Factor, i, j int, x float64) api.Factor {
	f = copied(f)
	f.Tri[place(f.Cols, i, j)] = x
	return f
}

// counted is f with other numbers of rows and rotations.
func counted(f api.Factor, rows, turns int) api.Factor {
	f.Rows, f.Turns = rows, turns
	return f
}

// wrong has factors that may not be.
func wrong() []api.Factor {
	l := []api.Factor{{}, {Cols: 1}, {Tri: make([]float64, 3)}, {Cols: 7, Tri: make([]float64, 36)}, {Cols: -1, Tri: make([]float64, 1)}, {Cols: -3, Tri: make([]float64, 1)}, {Cols: math.MaxInt}, {Cols: math.MinInt}, {Cols: math.MaxInt - 1, Tri: make([]float64, 3)}}
	for cols := 1; cols <= 6; cols++ {
		f := filled(cols)
		l = append(l, changed(f, 0, 0, minusZero), changed(f, cols, cols, -1), changed(f, 0, cols, tooGreat), changed(f, 0, 1, math.NaN()), changed(f, cols, cols, infinity))
		l = append(l, counted(f, -1, 0), counted(f, 201, 0), counted(f, 0, -1), counted(f, 0, 4097), counted(f, math.MaxInt, 0), counted(f, 0, math.MaxInt), counted(f, math.MinInt, 0), counted(f, 0, math.MinInt))
		l = append(l, api.Factor{Cols: cols, Tri: f.Tri[1:]}, api.Factor{Cols: cols, Tri: append(slices.Clone(f.Tri), 1)}, api.Factor{Cols: cols%6 + 1, Tri: f.Tri})
	}
	return l
}

// drawer hands out floats, the same ones again for each start.
type drawer uint64

func (d *drawer) next() uint64 {
	*d ^= *d << 13
	*d ^= *d >> 7
	*d ^= *d << 17
	return uint64(*d)
}

// float has any fraction and sign; its exponent is at most width away from 0. Some are zeros.
func (d *drawer) float(width int) float64 {
	if d.next()%8 == 0 {
		return math.Copysign(0, float64(int64(d.next())))
	}
	x := math.Ldexp(1+float64(d.next()>>12)/(1<<52), int(d.next()%uint64(2*width+1))-width)
	if d.next()%2 == 0 {
		return -x
	}
	return x
}

func (d *drawer) list(n, width int) []float64 {
	l := make([]float64, n)
	for i := range l {
		l[i] = d.float(width)
	}
	return l
}

// row has entries that are In, if width is below 400.
func (d *drawer) row(cols, width int) api.Row {
	return api.Row{X: d.list(cols, width), Y: d.float(width)}
}

func (d *drawer) rows(cols, n, width int) []api.Row {
	l := make([]api.Row, n)
	for i := range l {
		l[i] = d.row(cols, width)
	}
	return l
}

func (d *drawer) factor(cols, width int) api.Factor {
	f := api.Factor{Cols: cols, Tri: d.list(size(cols), width), Rows: 1, Turns: 1}
	for i := range cols + 1 {
		at := place(cols, i, i)
		f.Tri[at] = math.Abs(f.Tri[at])
	}
	return f
}

// square is f's triangle with all its places.
func square(f api.Factor) [][]float64 {
	m := make([][]float64, f.Cols+1)
	at := 0
	for i := range m {
		m[i] = make([]float64, f.Cols+1)
		at += copy(m[i][i:], f.Tri[at:])
	}
	return m
}

// lineByWords says P10.1 over again, on a triangle that has all its places.
func lineByWords(f api.Factor, l []float64, from int) (api.Factor, bool) {
	m, l := square(f), slices.Clone(l)
	for j := from; j <= f.Cols; j++ {
		c, s, r, is := givens.Of(m[j][j], l[j])
		if !is {
			return api.Factor{}, false
		}
		m[j][j] = r
		for k := j + 1; k <= f.Cols; k++ {
			x, y := givens.Turn(c, s, m[j][k], l[k])
			m[j][k], l[k] = x, y
		}
	}
	f.Tri = nil
	for i, row := range m {
		f.Tri = append(f.Tri, row[i:]...)
	}
	for _, x := range f.Tri {
		if !(math.Abs(x) <= greatest) {
			return api.Factor{}, false
		}
	}
	return f, true
}

func holdLine(t *testing.T, f api.Factor, l []float64, from int) {
	t.Helper()
	g, is := Line(f, l, from)
	want, too := lineByWords(f, l, from)
	if is != too || !sameFactor(g, want) {
		t.Errorf("Line(%v, %v, %d): %v, %v, not %v, %v", f, l, from, g, is, want, too)
	}
}

// P10.1: rotations whose floats have no error.
func TestLine(t *testing.T) {
	f := api.Factor{Cols: 2, Tri: []float64{0, 0, 0, 2, 8, 4}, Rows: 6, Turns: 9}
	for _, c := range []struct {
		l    []float64
		from int
		want []float64
	}{
		{[]float64{5, 0, 0}, 0, []float64{5, 0, 0, 2, 8, 4}},
		{[]float64{-5, 1, 2}, 0, []float64{5, -1, -2, 2, 8, 4}},
		{[]float64{0, 0, 0}, 0, []float64{0, 0, 0, 2, 8, 4}},
		{[]float64{0, 0, 3}, 0, []float64{0, 0, 0, 2, 8, 5}},
		{[]float64{0, 0, -3}, 2, []float64{0, 0, 0, 2, 8, 5}},
		// Entries ahead of from are not looked at.
		{[]float64{math.NaN(), infinity, 3}, 2, []float64{0, 0, 0, 2, 8, 5}},
		{[]float64{-infinity, 0, 3}, 1, []float64{0, 0, 0, 2, 8, 5}},
		{[]float64{tooGreat, 0, 0}, 1, []float64{0, 0, 0, 2, 8, 4}},
	} {
		g, is := Line(f, c.l, c.from)
		if want := (api.Factor{Cols: 2, Tri: c.want, Rows: 6, Turns: 9}); !is || !sameFactor(g, want) {
			t.Errorf("Line(%v, %v, %d): %v, %v, not %v", f, c.l, c.from, g, is, want)
		}
	}
}

// P10.1: each column, from each one on, by each entry.
func TestLineGoesThroughColumns(t *testing.T) {
	seed := drawer(1)
	for cols := 1; cols <= 6; cols++ {
		for from := range cols + 1 {
			holdLine(t, empty(cols), seed.list(cols+1, 3), from)
			holdLine(t, filled(cols), seed.list(cols+1, 3), from)
			holdLine(t, counted(filled(cols), 200, 4096), seed.list(cols+1, 3), from)
			for _, width := range []int{0, 1, 20, 200, 405, 417} {
				for range 20 {
					holdLine(t, seed.factor(cols, width), seed.list(cols+1, width), from)
				}
			}
			// Numbers so small that they have few bits.
			for range 20 {
				f, l := seed.factor(cols, 20), seed.list(cols+1, 20)
				for i := range f.Tri {
					f.Tri[i] = math.Ldexp(f.Tri[i], -1050)
				}
				for i := range l {
					l[i] = math.Ldexp(l[i], -1050)
				}
				holdLine(t, f, l, from)
			}
		}
	}
}

func refusesLine(t *testing.T, f api.Factor, l []float64, from int) {
	t.Helper()
	if g, is := Line(f, l, from); is || !isZero(g) {
		t.Errorf("Line(%v, %v, %d): %v, %v", f, l, from, g, is)
	}
}

// P10.1: wrong inputs.
func TestLineRefuses(t *testing.T) {
	for _, f := range wrong() {
		for n := range 9 {
			refusesLine(t, f, make([]float64, n), 0)
			refusesLine(t, f, make([]float64, n), f.Cols)
		}
	}
	for cols := 1; cols <= 6; cols++ {
		f, l := filled(cols), slices.Repeat([]float64{1}, cols+1)
		for _, from := range []int{-1, -2, cols + 1, cols + 2, math.MinInt, math.MaxInt} {
			refusesLine(t, f, l, from)
		}
		for _, other := range [][]float64{nil, {}, l[1:], append(slices.Clone(l), 1), slices.Repeat(l, 3)} {
			for from := range cols + 1 {
				refusesLine(t, f, other, from)
			}
		}
		for from := range cols + 1 {
			for i := from; i <= cols; i++ {
				for _, x := range []float64{infinity, -infinity, math.NaN()} {
					l := slices.Clone(l)
					l[i] = x
					refusesLine(t, f, l, from)
				}
			}
		}
	}
}

// P10.1: what comes may not be, by its diagonal or by another entry; at its edge it may.
func TestLineAtTheGreatest(t *testing.T) {
	for cols := 1; cols <= 6; cols++ {
		for i := range cols + 1 {
			f, l := changed(empty(cols), i, i, greatest), make([]float64, cols+1)
			g, is := Line(f, l, 0)
			if !is || !sameFactor(g, f) {
				t.Errorf("Line(%v, %v, 0): %v, %v", f, l, g, is)
			}
			// The greatest and so little more are still the greatest, rounded.
			l[i] = math.Ldexp(1, 393)
			if g, is := Line(f, l, 0); !is || !sameFactor(g, f) {
				t.Errorf("Line(%v, %v, 0): %v, %v", f, l, g, is)
			}
			for _, x := range []float64{math.Ldexp(1, 395), -math.Ldexp(1, 395), greatest, math.MaxFloat64} {
				l[i] = x
				refusesLine(t, f, l, 0)
				refusesLine(t, f, l, i)
			}
			l[i] = -greatest
			if g, is := Line(empty(cols), l, 0); !is || !sameFactor(g, f) {
				t.Errorf("Line(0, %v, 0): %v, %v", l, g, is)
			}
			l[i] = tooGreat
			refusesLine(t, empty(cols), l, 0)
			for j := i + 1; j <= cols; j++ {
				f, l := changed(changed(empty(cols), i, i, 1), i, j, greatest), make([]float64, cols+1)
				l[i], l[j] = 1, greatest
				refusesLine(t, f, l, i)
				l[j] = -greatest
				refusesLine(t, f, l, i) // the rest is left for row j, and too great there
				l[j] = greatest / 4
				holdLine(t, f, l, i)
			}
		}
	}
	// r comes to infinity.
	refusesLine(t, changed(empty(1), 0, 0, greatest), []float64{math.MaxFloat64, 0}, 0)
	refusesLine(t, changed(empty(1), 0, 0, 1), []float64{1, math.MaxFloat64}, 0)
}

// P10.2: the document's examples.
func TestRow(t *testing.T) {
	g, err := Row(empty(1), api.Row{X: []float64{3}, Y: 1})
	if err != api.OK || !sameFactor(g, api.Factor{Cols: 1, Tri: []float64{3, 1, 0}, Rows: 1, Turns: 2}) {
		t.Errorf("Row of 3, 1: %v, %d", g, err)
	}
	h, err := Row(g, api.Row{X: []float64{4}, Y: 2})
	if err != api.OK || h.Rows != 2 || h.Turns != 4 || h.Cols != 1 || !nearly(h.Tri, []float64{5, 2.2, 0.4}) {
		t.Errorf("Row of 4, 2: %v, %d", h, err)
	}
}

func nearly(a, b []float64) bool {
	return slices.EqualFunc(a, b, func(a, b float64) bool { return math.Abs(a-b) <= 1e-14 })
}

// P10.2: a row is a line that begins at 0.
func TestRowIsALine(t *testing.T) {
	seed := drawer(2)
	for cols := 1; cols <= 6; cols++ {
		for _, width := range []int{0, 3, 100, 399} {
			for range 50 {
				f, r := seed.factor(cols, width), seed.row(cols, width)
				f.Rows, f.Turns = int(seed.next()%200), int(seed.next()%4000)
				g, err := Row(f, r)
				want, is := lineByWords(f, append(slices.Clone(r.X), r.Y), 0)
				want.Rows, want.Turns = f.Rows+1, f.Turns+cols+1
				if !is || err != api.OK || !sameFactor(g, want) {
					t.Errorf("Row(%v, %v): %v, %d, not %v", f, r, g, err, want)
				}
			}
		}
	}
}

func holdRow(t *testing.T, f api.Factor, r api.Row, want api.Errno) {
	t.Helper()
	if g, err := Row(f, r); err != want || err != api.OK && !isZero(g) {
		t.Errorf("Row(%v, %v): %v, %d, not %d", f, r, g, err, want)
	}
}

func rowOf(l ...float64) api.Row { return api.Row{X: l[:len(l)-1], Y: l[len(l)-1]} }

// P10.2: each error, at each place, ahead of all that are named later.
func TestRowRefuses(t *testing.T) {
	for _, f := range wrong() {
		holdRow(t, f, api.Row{}, api.ErrArg)
		for n := range 9 {
			holdRow(t, f, rowOf(make([]float64, n+1)...), api.ErrArg)
			holdRow(t, f, rowOf(slices.Repeat([]float64{infinity}, n+1)...), api.ErrArg)
		}
	}
	for cols := 1; cols <= 6; cols++ {
		full := []api.Factor{counted(filled(cols), 200, 0), counted(filled(cols), 0, 4096), counted(filled(cols), 200, 4096), changed(counted(filled(cols), 200, 4096), 0, 0, greatest)}
		for _, f := range append(full, filled(cols)) {
			for n := range 9 {
				if n != cols {
					holdRow(t, f, rowOf(make([]float64, n+1)...), api.ErrSize)
					holdRow(t, f, rowOf(slices.Repeat([]float64{math.NaN()}, n+1)...), api.ErrSize)
				}
			}
			for i := range cols + 1 {
				for _, x := range notIn {
					l := slices.Repeat([]float64{1}, cols+1)
					l[i] = x
					holdRow(t, f, rowOf(l...), api.ErrRange)
				}
			}
		}
		for _, f := range full {
			holdRow(t, f, rowOf(slices.Repeat([]float64{1}, cols+1)...), api.ErrFull)
			holdRow(t, f, rowOf(slices.Repeat([]float64{high}, cols+1)...), api.ErrFull)
		}
		large := changed(filled(cols), 0, 0, greatest)
		holdRow(t, large, rowOf(slices.Repeat([]float64{high}, cols+1)...), api.ErrRange)
		holdRow(t, large, rowOf(slices.Repeat([]float64{1}, cols+1)...), api.OK)
	}
}

// P10.2: the edges of what rows may have, and of how many there may be.
func TestRowAtTheEdges(t *testing.T) {
	for cols := 1; cols <= 6; cols++ {
		for i := range cols + 1 {
			for _, x := range []float64{0, minusZero, low, -low, high, -high} {
				l := slices.Repeat([]float64{1}, cols+1)
				l[i] = x
				holdRow(t, filled(cols), rowOf(l...), api.OK)
			}
		}
		r := rowOf(slices.Repeat([]float64{1}, cols+1)...)
		last := 4096 - cols - 1
		for _, c := range []struct {
			rows, turns int
			want        api.Errno
		}{{0, 0, api.OK}, {199, 0, api.OK}, {200, 0, api.ErrFull}, {0, last - 1, api.OK}, {0, last, api.OK}, {0, last + 1, api.ErrFull}, {199, last, api.OK}, {200, last, api.ErrFull}, {0, 4096, api.ErrFull}} {
			f := counted(filled(cols), c.rows, c.turns)
			holdRow(t, f, r, c.want)
			if g, err := Row(f, r); err == api.OK && (g.Rows != c.rows+1 || g.Turns != c.turns+cols+1) {
				t.Errorf("Row(%v, %v): %v", f, r, g)
			}
		}
	}
}

// oneByOne is P10.3 over again: the rows that are not refused, by Row.
func oneByOne(f api.Factor, l []api.Row) (api.Factor, int, api.Errno) {
	for n := 0; n < len(l); n++ {
		g, err := Row(f, l[n])
		if err != api.OK {
			return f, n, err
		}
		f = g
	}
	return f, len(l), api.OK
}

func holdAll(t *testing.T, f api.Factor, l []api.Row, n int, err api.Errno) {
	t.Helper()
	g, count, got := All(f, l)
	want, _, _ := oneByOne(f, l)
	if !sameFactor(g, want) || count != n || got != err || g.Rows != f.Rows+n || g.Turns != f.Turns+n*(f.Cols+1) {
		t.Errorf("All(%v, %v): %v, %d, %d, not %v, %d, %d", f, l, g, count, got, want, n, err)
	}
}

// P10.3
func TestAll(t *testing.T) {
	seed := drawer(3)
	for cols := 1; cols <= 6; cols++ {
		for _, f := range []api.Factor{empty(cols), filled(cols)} {
			holdAll(t, f, nil, 0, api.OK)
			holdAll(t, f, []api.Row{}, 0, api.OK)
			l := seed.rows(cols, 9, 10)
			holdAll(t, f, l, 9, api.OK)
			for n := range l {
				for _, c := range []struct {
					r   api.Row
					err api.Errno
				}{{seed.row(cols+1, 10), api.ErrSize}, {api.Row{}, api.ErrSize}, {api.Row{X: make([]float64, cols), Y: infinity}, api.ErrRange}} {
					m := slices.Clone(l)
					m[n] = c.r
					holdAll(t, f, m, n, c.err)
				}
			}
		}
		// Behind one that is refused, others are not looked at.
		holdAll(t, empty(cols), []api.Row{{}, {X: []float64{infinity}}, seed.row(cols, 3)}, 0, api.ErrSize)
	}
}

// P10.3: so many rows that there are too many, or too many rotations.
func TestAllUpToTheFullFactor(t *testing.T) {
	seed := drawer(4)
	for cols := 1; cols <= 6; cols++ {
		l := seed.rows(cols, 230, 5)
		holdAll(t, empty(cols), l[:200], 200, api.OK)
		holdAll(t, empty(cols), l, 200, api.ErrFull)
		holdAll(t, counted(filled(cols), 150, 0), l, 50, api.ErrFull)
		holdAll(t, counted(filled(cols), 0, 4096-10*(cols+1)), l, 10, api.ErrFull)
		holdAll(t, counted(filled(cols), 0, 4096-10*(cols+1)+1), l, 9, api.ErrFull)
		holdAll(t, counted(filled(cols), 200, 0), l, 0, api.ErrFull)
		holdAll(t, changed(empty(cols), 0, 0, greatest), []api.Row{rowOf(make([]float64, cols+1)...), rowOf(slices.Repeat([]float64{high}, cols+1)...)}, 1, api.ErrRange)
	}
}

// P10.3: wrong inputs.
func TestAllRefuses(t *testing.T) {
	for _, f := range wrong() {
		for _, l := range [][]api.Row{nil, {}, {{}}, {{X: []float64{1}, Y: 1}}, {{X: []float64{infinity}}}} {
			if g, n, err := All(f, l); !isZero(g) || n != 0 || err != api.ErrArg {
				t.Errorf("All(%v, %v): %v, %d, %d", f, l, g, n, err)
			}
		}
	}
}

// ridgeByWords says P10.4 over again, where nothing is wrong.
func ridgeByWords(f api.Factor, mu float64) api.Factor {
	cols := f.Cols
	for j := range cols {
		l := make([]float64, cols+1)
		l[j] = mu
		f, _ = lineByWords(f, l, j)
	}
	f.Turns += cols * (cols + 1)
	return f
}

// P10.4
func TestRidge(t *testing.T) {
	g, err := Ridge(api.Factor{Cols: 1, Tri: []float64{3, -1, 0}, Rows: 1, Turns: 2}, 4)
	if err != api.OK || g.Rows != 1 || g.Turns != 4 || !nearly(g.Tri, []float64{5, -0.6, 0.8}) {
		t.Errorf("Ridge of 4: %v, %d", g, err)
	}
	g, err = Ridge(empty(2), 3)
	if err != api.OK || !sameFactor(g, api.Factor{Cols: 2, Tri: []float64{3, 0, 0, 3, 0, 0}, Turns: 6}) {
		t.Errorf("Ridge of 3: %v, %d", g, err)
	}
	seed := drawer(5)
	for cols := 1; cols <= 6; cols++ {
		for _, mu := range []float64{1, 0.1, low, high, 7.25} {
			for _, width := range []int{0, 5, 300} {
				for range 10 {
					f := seed.factor(cols, width)
					f.Rows = 200
					g, err := Ridge(f, mu)
					if want := ridgeByWords(f, mu); err != api.OK || !sameFactor(g, want) {
						t.Errorf("Ridge(%v, %v): %v, %d, not %v", f, mu, g, err, want)
					}
				}
			}
		}
	}
}

func holdRidge(t *testing.T, f api.Factor, mu float64, want api.Errno) {
	t.Helper()
	g, err := Ridge(f, mu)
	if err != want || err != api.OK && !isZero(g) || err == api.OK && mu == 0 && !sameFactor(g, f) {
		t.Errorf("Ridge(%v, %v): %v, %d, not %d", f, mu, g, err, want)
	}
}

// P10.4: each error, ahead of all that are named later.
func TestRidgeRefuses(t *testing.T) {
	for _, f := range wrong() {
		for _, mu := range []float64{0, 1, -1, minusZero, math.NaN()} {
			holdRidge(t, f, mu, api.ErrArg)
		}
	}
	for cols := 1; cols <= 6; cols++ {
		last := 4096 - cols*(cols+1)
		large := changed(filled(cols), cols-1, cols-1, greatest)
		for _, f := range []api.Factor{filled(cols), counted(filled(cols), 200, last), counted(filled(cols), 200, last+1), counted(filled(cols), 0, 4096), large, counted(large, 0, 4096)} {
			for _, mu := range append([]float64{-1, minusZero, -low, -high, math.Copysign(math.NaN(), -1)}, notIn...) {
				holdRidge(t, f, mu, api.ErrRange)
			}
			holdRidge(t, f, 0, api.OK)
			for _, mu := range []float64{low, 1, high} {
				switch {
				case f.Turns > last:
					holdRidge(t, f, mu, api.ErrFull)
				case mu == high && slices.Contains(f.Tri, greatest):
					holdRidge(t, f, mu, api.ErrRange)
				default:
					holdRidge(t, f, mu, api.OK)
				}
			}
		}
		if g, err := Ridge(counted(filled(cols), 7, last), 1); err != api.OK || g.Turns != 4096 || g.Rows != 7 {
			t.Errorf("Ridge of a factor of %d turns: %v, %d", last, g, err)
		}
	}
}

// P10.5: behind a row, the Gram list is near to that ahead of it and the row's.
func TestRowIsNear(t *testing.T) {
	seed := drawer(6)
	for cols := 1; cols <= 6; cols++ {
		for _, width := range []int{0, 1, 5, 50, 399} {
			for n := range 20 {
				f, r := seed.factor(cols, width), seed.row(cols, width)
				if n%4 == 0 {
					for i := range f.Tri {
						f.Tri[i] = math.Ldexp(f.Tri[i], -600)
					}
				}
				g, err := Row(f, r)
				ahead, _ := gram.Factor(f)
				more, _ := gram.Row(r)
				want, _ := gram.Add(ahead, more)
				got, is := gram.Factor(g)
				if at, are := near.Check(cols, want, want, got, cols+1); err != api.OK || !is || !are {
					t.Errorf("Row(%v, %v): %v, %d: not near at %d", f, r, g, err, at)
				}
			}
		}
	}
}

// P10.5: so are all rows, behind one another, for all their rotations.
func TestAllIsNear(t *testing.T) {
	seed := drawer(7)
	for cols := 1; cols <= 6; cols++ {
		for _, width := range []int{0, 3, 40, 399} {
			l := seed.rows(cols, 60, width)
			f, _, err := All(empty(cols), l)
			want, _ := gram.Rows(cols, l)
			got, _ := gram.Factor(f)
			if at, are := near.Check(cols, want, want, got, f.Turns); err != api.OK || !are {
				t.Errorf("All(0, %v): %v, %d: not near at %d", l, f, err, at)
			}
		}
	}
}

// P10.5: the first row is stored as it is, but for its sign, in the triangle's row of its first entry that is not 0.
func TestFirstRowIsStored(t *testing.T) {
	seed := drawer(8)
	for cols := 1; cols <= 6; cols++ {
		for range 200 {
			l := seed.list(cols+1, 399)
			g, err := Row(empty(cols), rowOf(l...))
			first := slices.IndexFunc(l, func(x float64) bool { return x != 0 })
			want := empty(cols)
			for j := first; first >= 0 && j <= cols; j++ {
				want.Tri[place(cols, first, j)] = l[j] * math.Copysign(1, l[first])
			}
			if err != api.OK || !slices.Equal(g.Tri, want.Tri) || g.Rows != 1 || g.Turns != cols+1 {
				t.Errorf("Row(0, %v): %v, %d, not %v", l, g, err, want)
			}
		}
	}
}

// P10.5: rows of zeros change no number of the triangle.
func TestRowsOfZeros(t *testing.T) {
	seed := drawer(9)
	for cols := 1; cols <= 6; cols++ {
		for range 100 {
			f, l := seed.factor(cols, 419), make([]float64, cols+1)
			for i := range l {
				l[i] = math.Copysign(0, float64(int64(seed.next())))
			}
			g, err := Row(f, rowOf(l...))
			if err != api.OK || !slices.Equal(g.Tri, f.Tri) || g.Rows != f.Rows+1 || g.Turns != f.Turns+cols+1 {
				t.Errorf("Row(%v, %v): %v, %d", f, l, g, err)
			}
		}
		for _, x := range []float64{least, 3 * least, 0x1p-1022, greatest} {
			f := empty(cols)
			for i := range f.Tri {
				f.Tri[i] = x
			}
			if g, err := Row(f, rowOf(make([]float64, cols+1)...)); err != api.OK || !slices.Equal(g.Tri, f.Tri) {
				t.Errorf("Row(%v, 0): %v, %d", f, g, err)
			}
		}
	}
}

// R5: what is handed in is not changed, and no answer shares its memory.
func TestAnswersAreNewMemory(t *testing.T) {
	for cols := 1; cols <= 6; cols++ {
		f, l := filled(cols), slices.Repeat([]float64{2}, cols+1)
		ahead, line := copied(f), slices.Clone(l)
		// X has room behind its entries, which is not the program's.
		r := api.Row{X: l[:cols], Y: 3}
		ask := []func() api.Factor{
			func() api.Factor { g, _ := Line(f, l, 0); return g },
			func() api.Factor { g, _ := Line(f, l, cols); return g },
			func() api.Factor { g, _ := Row(f, r); return g },
			func() api.Factor { g, _, _ := All(f, []api.Row{r, r}); return g },
			func() api.Factor { g, _, _ := All(f, nil); return g },
			func() api.Factor { g, _, _ := All(f, []api.Row{{}, r}); return g },
			func() api.Factor { g, _ := Ridge(f, 0); return g },
			func() api.Factor { g, _ := Ridge(f, 2); return g },
		}
		for i, call := range ask {
			g := call()
			if !sameFactor(f, ahead) || !sameList(l, line) {
				t.Fatalf("call %d changed what was handed in: %v, %v", i, f, l)
			}
			if len(g.Tri) != size(cols) {
				t.Fatalf("call %d: %v", i, g)
			}
			clear(g.Tri)
			if !sameFactor(f, ahead) || !sameList(l, line) {
				t.Fatalf("call %d shares what was handed in: %v, %v", i, f, l)
			}
		}
		spoilt := append(l[:cols:cols], infinity)
		refusesLine(t, f, spoilt, 0)
		if !sameFactor(f, ahead) || !sameList(spoilt[:cols], line[:cols]) {
			t.Fatalf("what was handed in is changed: %v, %v", f, spoilt)
		}
	}
}
