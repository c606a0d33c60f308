package shed

import (
	"errors"
	"math"
	"slices"
	"testing"

	"levelling/absorb"
	"levelling/api"
	"levelling/givens"
	"levelling/gram"
	"levelling/near"
)

const least = math.SmallestNonzeroFloat64

var (
	minusZero = math.Copysign(0, -1)
	infinity  = math.Inf(1)
	// In ends at these; a triangle's entries at greatest.
	low      = math.Ldexp(1, -400)
	high     = math.Ldexp(1, 400)
	greatest = math.Ldexp(1, 420)
	tooGreat = math.Nextafter(greatest, infinity)
)

// notIn has floats that rows may not have.
var notIn = []float64{math.Nextafter(high, infinity), -math.Nextafter(high, infinity), math.Nextafter(low, 0), -math.Nextafter(low, 0), least, -least, math.MaxFloat64, infinity, -infinity, math.NaN()}

func sameBits(a, b float64) bool { return math.Float64bits(a) == math.Float64bits(b) }

func sameList(a, b []float64) bool { return slices.EqualFunc(a, b, sameBits) }

func sameFactor(a, b api.Factor) bool {
	return a.Cols == b.Cols && a.Rows == b.Rows && a.Turns == b.Turns && sameList(a.Tri, b.Tri)
}

func isZero(f api.Factor) bool { return sameFactor(f, api.Factor{}) }

func copied(f api.Factor) api.Factor {
	f.Tri = slices.Clone(f.Tri)
	return f
}

func size(cols int) int { return (cols + 1) * (cols + 2) / 2 }

func place(cols, i, j int) int {
	at := 0
	for row := range i {
		at += cols + 1 - row
	}
	return at + j - i
}

// empty is a new factor.
func empty(cols int) api.Factor {
	return api.Factor{Cols: cols, Tri: make([]float64, size(cols))}
}

// filled is a factor of so many columns, no two entries of which are the same.
func filled(cols int) api.Factor {
	f := api.Factor{Cols: cols, Rows: 3, Turns: 5}
	for at := range size(cols) {
		f.Tri = append(f.Tri, -0.5-float64(at))
	}
	for i := range cols + 1 {
		f.Tri[place(cols, i, i)] *= -1
	}
	return f
}

// steep is a factor with x on its diagonal, and zeros else.
func steep(cols int, x float64) api.Factor {
	f := counted(empty(cols), 3, 5)
	for i := range cols + 1 {
		f.Tri[place(cols, i, i)] = x
	}
	return f
}

// changed is f with x in the place of row i, column j.
func changed(f api.Factor, i, j int, x float64) api.Factor {
	f = copied(f)
	f.Tri[place(f.Cols, i, j)] = x
	return f
}

// counted is f with other numbers of rows and rotations.
func counted(f api.Factor, rows, turns int) api.Factor {
	f.Rows, f.Turns = rows, turns
	return f
}

// wrong has factors that may not be.
func wrong() []api.Factor {
	l := []api.Factor{{}, {Cols: 1}, {Tri: make([]float64, 3)}, {Cols: 7, Tri: make([]float64, 36)}, {Cols: -1, Tri: make([]float64, 1)}, {Cols: -3, Tri: make([]float64, 1)}, {Cols: math.MaxInt}, {Cols: math.MinInt}, {Cols: math.MaxInt - 1, Tri: make([]float64, 3)}}
	for cols := 1; cols <= 6; cols++ {
		f := filled(cols)
		l = append(l, changed(f, 0, 0, minusZero), changed(f, cols, cols, -1), changed(f, 0, cols, tooGreat), changed(f, 0, 1, math.NaN()), changed(f, cols, cols, infinity))
		l = append(l, counted(f, -1, 0), counted(f, 201, 0), counted(f, 0, -1), counted(f, 0, 4097), counted(f, math.MaxInt, 0), counted(f, 0, math.MaxInt), counted(f, math.MinInt, 0), counted(f, 0, math.MinInt))
		l = append(l, api.Factor{Cols: cols, Tri: f.Tri[1:]}, api.Factor{Cols: cols, Tri: append(slices.Clone(f.Tri), 1)}, api.Factor{Cols: cols%6 + 1, Tri: f.Tri})
	}
	return l
}

// drawer hands out floats, the same ones again for each start.
type drawer uint64

func (d *drawer) next() uint64 {
	*d ^= *d << 13
	*d ^= *d >> 7
	*d ^= *d << 17
	return uint64(*d)
}

// float has any fraction and sign; its exponent is at most width away from 0. Some are zeros.
func (d *drawer) float(width int) float64 {
	if d.next()%8 == 0 {
		return math.Copysign(0, float64(int64(d.next())))
	}
	x := math.Ldexp(1+float64(d.next()>>12)/(1<<52), int(d.next()%uint64(2*width+1))-width)
	if d.next()%2 == 0 {
		return -x
	}
	return x
}

func (d *drawer) list(n, width int) []float64 {
	l := make([]float64, n)
	for i := range l {
		l[i] = d.float(width)
	}
	return l
}

// row has entries that are In, if width is below 400.
func (d *drawer) row(cols, width int) api.Row {
	return api.Row{X: d.list(cols, width), Y: d.float(width)}
}

func (d *drawer) rows(cols, n, width int) []api.Row {
	l := make([]api.Row, n)
	for i := range l {
		l[i] = d.row(cols, width)
	}
	return l
}

func (d *drawer) factor(cols, width int) api.Factor {
	f := api.Factor{Cols: cols, Tri: d.list(size(cols), width), Rows: 1, Turns: 1}
	for i := range cols + 1 {
		at := place(cols, i, i)
		f.Tri[at] = math.Abs(f.Tri[at])
	}
	return f
}

// part is a line that can be taken out of f, but for rounding: f's lines, each times a number, whose squares come to share.
func (d *drawer) part(f api.Factor, share float64) []float64 {
	times, sum := d.list(f.Cols+1, 2), 0.0
	for _, x := range times {
		sum += x * x
	}
	l := make([]float64, f.Cols+1)
	if sum == 0 {
		return l
	}
	for i, row := range square(f) {
		for j, x := range row {
			l[j] += x * times[i] * math.Sqrt(share/sum)
		}
	}
	return l
}

// square is f's triangle with all its places.
func square(f api.Factor) [][]float64 {
	m := make([][]float64, f.Cols+1)
	at := 0
	for i := range m {
		m[i] = make([]float64, f.Cols+1)
		at += copy(m[i][i:], f.Tri[at:])
	}
	return m
}

// scaled is each of l, times 2 to the power of k.
func scaled(l []float64, k int) []float64 {
	l = slices.Clone(l)
	for i := range l {
		l[i] = math.Ldexp(l[i], k)
	}
	return l
}

func rowOf(l ...float64) api.Row { return api.Row{X: l[:len(l)-1], Y: l[len(l)-1]} }

func nearly(a, b []float64) bool {
	return slices.EqualFunc(a, b, func(a, b float64) bool { return math.Abs(a-b) <= 1e-14 })
}

// lineByWords says P11.1 over again, on a triangle that has all its places, where f may be and l fits.
func lineByWords(f api.Factor, l []float64) (api.Factor, api.Errno) {
	m, l := square(f), slices.Clone(l)
	for j := 0; j <= f.Cols; j++ {
		c, s, is := givens.Hyper(m[j][j], l[j])
		if !is {
			return api.Factor{}, api.ErrShed
		}
		m[j][j] = c * m[j][j]
		for k := j + 1; k <= f.Cols; k++ {
			r, x := givens.Down(c, s, m[j][k], l[k])
			m[j][k], l[k] = r, x
		}
	}
	f.Tri = nil
	for i, row := range m {
		f.Tri = append(f.Tri, row[i:]...)
	}
	for _, x := range f.Tri {
		if !(math.Abs(x) <= greatest) {
			return api.Factor{}, api.ErrRange
		}
	}
	return f, api.OK
}

// holdLine holds Line against the chapter's words, and tells what both told.
func holdLine(t *testing.T, f api.Factor, l []float64) api.Errno {
	t.Helper()
	g, err := Line(f, l)
	want, too := lineByWords(f, l)
	if err != too || !sameFactor(g, want) {
		t.Errorf("Line(%v, %v): %v, %d, not %v, %d", f, l, g, err, want, too)
	}
	return err
}

// P11.1: lines whose numbers can be told by hand.
func TestLine(t *testing.T) {
	f := api.Factor{Cols: 2, Tri: []float64{5, 1, -2, 13, 7, 17}, Rows: 6, Turns: 9}
	for _, c := range []struct {
		l    []float64
		want []float64
	}{
		{[]float64{0, 0, 0}, []float64{5, 1, -2, 13, 7, 17}},
		{[]float64{minusZero, minusZero, minusZero}, []float64{5, 1, -2, 13, 7, 17}},
		{[]float64{0, 0, 8}, []float64{5, 1, -2, 13, 7, 15}},
		{[]float64{0, 0, -8}, []float64{5, 1, -2, 13, 7, 15}},
		// s is 5/13, c is 12/13; 7 by 12/13; what is left is -5/13 times 91/12.
		{[]float64{0, 5, 0}, []float64{5, 1, -2, 12, 91.0 / 12, math.Sqrt(289 - 35.0*35/144)}},
		{[]float64{0, -5, 0}, []float64{5, 1, -2, 12, 91.0 / 12, math.Sqrt(289 - 35.0*35/144)}},
		// s is 3/5, c is 4/5; what is left of 0.6 and -1.2 is 0.
		{[]float64{3, 0.6, -1.2}, []float64{4, 0.8, -1.6, 13, 7, 17}},
		{[]float64{-3, -0.6, 1.2}, []float64{4, 0.8, -1.6, 13, 7, 17}},
		{[]float64{4, 0.8, -1.6}, []float64{3, 0.6, -1.2, 13, 7, 17}},
	} {
		g, err := Line(f, c.l)
		if err != api.OK || g.Cols != 2 || g.Rows != 6 || g.Turns != 9 || !nearly(g.Tri, c.want) {
			t.Errorf("Line(%v, %v): %v, %d, not %v", f, c.l, g, err, c.want)
		}
	}
}

// P11.1: each column, by each entry; Rows and Turns stay, whatever they are.
func TestLineGoesThroughColumns(t *testing.T) {
	seed := drawer(1)
	count := map[api.Errno]int{}
	for cols := 1; cols <= 6; cols++ {
		for _, f := range []api.Factor{empty(cols), filled(cols), counted(filled(cols), 200, 4096), counted(filled(cols), 0, 0)} {
			count[holdLine(t, f, seed.part(f, 0.5))]++
			count[holdLine(t, f, seed.list(cols+1, 3))]++
		}
		for _, width := range []int{0, 1, 20, 200, 405, 417} {
			for _, share := range []float64{1e-30, 0.01, 0.5, 0.99, 1 - 1e-9, 1 - 1e-15, 1.01} {
				for range 20 {
					f := seed.factor(cols, width)
					l := seed.part(f, share)
					count[holdLine(t, f, l)]++
					count[holdLine(t, f, seed.list(cols+1, width))]++
					// Numbers so small that they have few bits.
					f.Tri = scaled(f.Tri, -1050)
					count[holdLine(t, f, scaled(l, -1050))]++
				}
			}
		}
	}
	if count[api.OK] < 1000 || count[api.ErrShed] < 1000 || len(count) > 3 {
		t.Errorf("what was told: %v", count)
	}
}

func refusesLine(t *testing.T, f api.Factor, l []float64, want api.Errno) {
	t.Helper()
	if g, err := Line(f, l); err != want || !isZero(g) {
		t.Errorf("Line(%v, %v): %v, %d, not %d", f, l, g, err, want)
	}
}

// P11.1: wrong inputs.
func TestLineRefuses(t *testing.T) {
	for _, f := range wrong() {
		refusesLine(t, f, nil, api.ErrArg)
		for n := range 9 {
			refusesLine(t, f, make([]float64, n), api.ErrArg)
			refusesLine(t, f, slices.Repeat([]float64{infinity}, n), api.ErrArg)
		}
	}
	for cols := 1; cols <= 6; cols++ {
		f, l := filled(cols), make([]float64, cols+1)
		for _, other := range [][]float64{nil, {}, l[1:], append(slices.Clone(l), 0), slices.Repeat(l, 3), slices.Repeat([]float64{math.NaN()}, cols+2)} {
			refusesLine(t, f, other, api.ErrArg)
			refusesLine(t, empty(cols), other, api.ErrArg)
		}
	}
}

// P11.1: at each column, what is no number, or not less than what is there, can't be taken out; a little less can.
func TestLineSheds(t *testing.T) {
	for cols := 1; cols <= 6; cols++ {
		for i := range cols + 1 {
			for _, d := range []float64{least, 1e-310, low, 1, 3, greatest} {
				f := changed(steep(cols, 2), i, i, d)
				for _, x := range []float64{d, math.Nextafter(d, infinity), 2 * d, math.MaxFloat64, infinity, math.NaN()} {
					for _, x := range []float64{x, -x} {
						l := make([]float64, cols+1)
						l[i] = x
						refusesLine(t, f, l, api.ErrShed)
						l[0] += 0.5
						refusesLine(t, changed(f, i, i, 0), l, api.ErrShed)
					}
				}
				l := make([]float64, cols+1)
				l[i] = math.Nextafter(d, 0)
				if err := holdLine(t, f, l); err != api.OK {
					t.Errorf("Line(%v, %v): %d", f, l, err)
				}
			}
		}
		// Nothing can be taken out of nothing.
		l := make([]float64, cols+1)
		if err := holdLine(t, empty(cols), l); err != api.OK {
			t.Errorf("Line(0, %v): %d", l, err)
		}
		for i := range l {
			l := slices.Clone(l)
			l[i] = least
			refusesLine(t, empty(cols), l, api.ErrShed)
		}
	}
}

// P11.1: what comes may not be; that is told behind all columns, so ErrShed of a later one is told ahead of it.
func TestLineAtTheGreatest(t *testing.T) {
	for cols := 1; cols <= 6; cols++ {
		for i := range cols + 1 {
			for j := i + 1; j <= cols; j++ {
				// c is 4/5: the greatest comes to 5/4 of it, and -3/4 of it are left for row j.
				f, l := changed(steep(cols, greatest), i, j, greatest), make([]float64, cols+1)
				f = changed(f, i, i, 5)
				l[i] = 3
				refusesLine(t, f, l, api.ErrRange)
				refusesLine(t, changed(f, i, j, -greatest), l, api.ErrRange)
				refusesLine(t, changed(f, j, j, greatest/2), l, api.ErrShed)
				refusesLine(t, changed(f, cols, cols, 0), append(slices.Clone(l[:cols]), 1), api.ErrShed)
				for _, x := range []float64{greatest / 2, 0.79 * greatest, 0.81 * greatest} {
					if err := holdLine(t, changed(f, i, j, x), l); (err == api.OK) != (x < 0.8*greatest) {
						t.Errorf("Line of %v: %d", x, err)
					}
				}
			}
		}
		// What is the greatest stays so.
		f, l := steep(cols, greatest), make([]float64, cols+1)
		l[0] = 1
		if g, err := Line(f, l); err != api.OK || !sameFactor(g, f) {
			t.Errorf("Line(%v, %v): %v, %d", f, l, g, err)
		}
	}
	// An entry that comes to infinity leaves an infinity.
	refusesLine(t, steep(1, 1), []float64{1 - 0x1p-53, math.MaxFloat64}, api.ErrShed)
}

// P11.2: the document's example.
func TestRow(t *testing.T) {
	f := api.Factor{Cols: 1, Tri: []float64{5, 2.2, 0.4}, Rows: 2, Turns: 4}
	switch g, err := Row(f, rowOf(4, 2)); err {
	case api.OK:
		if g.Cols != 1 || g.Rows != 1 || g.Turns != 6 || math.Abs(g.Tri[0]-3) > 1e-14 || math.Abs(g.Tri[1]-1) > 1e-14 || g.Tri[2] > 1e-6 {
			t.Errorf("Row of 4, 2: %v", g)
		}
	case api.ErrShed:
		if !isZero(g) {
			t.Errorf("Row of 4, 2: %v beside an error", g)
		}
	default:
		t.Errorf("Row of 4, 2: %v, %d", g, err)
	}
	g, err := Row(api.Factor{Cols: 1, Tri: []float64{5, 2.2, 0.5}, Rows: 2, Turns: 4}, rowOf(4, 2))
	if err != api.OK || g.Rows != 1 || g.Turns != 6 || !nearly(g.Tri, []float64{3, 1, 0.3}) {
		t.Errorf("Row of 4, 2: %v, %d", g, err)
	}
}

// P11.2: a row is a line of X and then Y.
func TestRowIsALine(t *testing.T) {
	seed := drawer(2)
	went := 0
	for cols := 1; cols <= 6; cols++ {
		for _, width := range []int{0, 3, 30, 180} {
			for range 50 {
				f := seed.factor(cols, width)
				f.Rows, f.Turns = 1+int(seed.next()%200), int(seed.next()%4000)
				l := seed.part(f, 0.9)
				g, err := Row(f, rowOf(l...))
				want, too := lineByWords(f, l)
				if too == api.OK {
					went++
					want.Rows, want.Turns = f.Rows-1, f.Turns+cols+1
				}
				if err != too || !sameFactor(g, want) {
					t.Errorf("Row(%v, %v): %v, %d, not %v, %d", f, l, g, err, want, too)
				}
			}
		}
	}
	if went < 500 {
		t.Errorf("only %d rows were taken out", went)
	}
}

func holdRow(t *testing.T, f api.Factor, r api.Row, want api.Errno) {
	t.Helper()
	if g, err := Row(f, r); err != want || err != api.OK && !isZero(g) {
		t.Errorf("Row(%v, %v): %v, %d, not %d", f, r, g, err, want)
	}
}

// P11.2: each error, at each place, ahead of all that are named later.
func TestRowRefuses(t *testing.T) {
	for _, f := range wrong() {
		holdRow(t, f, api.Row{}, api.ErrArg)
		for n := range 9 {
			holdRow(t, f, rowOf(make([]float64, n+1)...), api.ErrArg)
			holdRow(t, f, rowOf(slices.Repeat([]float64{infinity}, n+1)...), api.ErrArg)
		}
	}
	for cols := 1; cols <= 6; cols++ {
		small, big := rowOf(slices.Repeat([]float64{0.125}, cols+1)...), rowOf(slices.Repeat([]float64{high}, cols+1)...)
		few := []api.Factor{counted(steep(cols, 2), 0, 0), counted(steep(cols, 2), 0, 4096), counted(empty(cols), 0, 4096)}
		full := []api.Factor{counted(steep(cols, 2), 1, 4096), counted(steep(cols, 2), 200, 4096-cols), counted(empty(cols), 1, 4096)}
		for _, f := range slices.Concat(few, full, []api.Factor{steep(cols, 2), filled(cols)}) {
			for n := range 9 {
				if n != cols {
					holdRow(t, f, rowOf(make([]float64, n+1)...), api.ErrSize)
					holdRow(t, f, rowOf(slices.Repeat([]float64{math.NaN()}, n+1)...), api.ErrSize)
				}
			}
			for i := range cols + 1 {
				for _, x := range notIn {
					l := slices.Repeat([]float64{0.125}, cols+1)
					l[i] = x
					holdRow(t, f, rowOf(l...), api.ErrRange)
				}
			}
		}
		for _, f := range few {
			holdRow(t, f, small, api.ErrFew)
			holdRow(t, f, big, api.ErrFew)
		}
		for _, f := range full {
			holdRow(t, f, small, api.ErrFull)
			holdRow(t, f, big, api.ErrFull)
		}
		holdRow(t, steep(cols, 2), small, api.OK)
		holdRow(t, steep(cols, 2), big, api.ErrShed)
		holdRow(t, counted(empty(cols), 1, 0), small, api.ErrShed)
	}
}

// P11.2: what Line tells is told: by each column ErrShed, and ErrRange, where both may be.
func TestRowTellsWhatLineTells(t *testing.T) {
	for cols := 1; cols <= 6; cols++ {
		for i := range cols + 1 {
			for _, x := range []float64{2, -2, 3, -3, high, -high} {
				l := make([]float64, cols+1)
				l[i] = x
				holdRow(t, steep(cols, 2), rowOf(l...), api.ErrShed)
			}
		}
		f := changed(changed(steep(cols, greatest), 0, 0, 5), 0, cols, greatest)
		three := rowOf(append([]float64{3}, make([]float64, cols)...)...)
		holdRow(t, f, three, api.ErrRange)
		holdRow(t, changed(f, cols, cols, 1), three, api.ErrShed)
	}
}

// P11.2: the edges of what rows may have, and of how many there may be.
func TestRowAtTheEdges(t *testing.T) {
	for cols := 1; cols <= 6; cols++ {
		for i := range cols + 1 {
			for _, x := range []float64{0, minusZero, low, -low, high, -high} {
				l := make([]float64, cols+1)
				l[i] = x
				holdRow(t, steep(cols, greatest), rowOf(l...), api.OK)
			}
		}
		r := rowOf(slices.Repeat([]float64{0.125}, cols+1)...)
		last := 4096 - cols - 1
		for _, c := range []struct {
			rows, turns int
			want        api.Errno
		}{{0, 0, api.ErrFew}, {1, 0, api.OK}, {200, 0, api.OK}, {1, last - 1, api.OK}, {1, last, api.OK}, {200, last, api.OK}, {1, last + 1, api.ErrFull}, {0, last + 1, api.ErrFew}, {200, 4096, api.ErrFull}} {
			f := counted(steep(cols, 2), c.rows, c.turns)
			holdRow(t, f, r, c.want)
			if g, err := Row(f, r); err == api.OK && (g.Rows != c.rows-1 || g.Turns != c.turns+cols+1) {
				t.Errorf("Row(%v, %v): %v", f, r, g)
			}
		}
	}
}

// oneByOne is P11.3 over again: the rows that are not refused, by Row.
func oneByOne(f api.Factor, l []api.Row) (api.Factor, int, api.Errno) {
	for n := 0; n < len(l); n++ {
		g, err := Row(f, l[n])
		if err != api.OK {
			return f, n, err
		}
		f = g
	}
	return f, len(l), api.OK
}

func holdAll(t *testing.T, f api.Factor, l []api.Row, n int, err api.Errno) {
	t.Helper()
	g, count, got := All(f, l)
	want, _, _ := oneByOne(f, l)
	if !sameFactor(g, want) || count != n || got != err || g.Rows != f.Rows-n || g.Turns != f.Turns+n*(f.Cols+1) {
		t.Errorf("All(%v, %v): %v, %d, %d, not %v, %d, %d", f, l, g, count, got, want, n, err)
	}
}

// P11.3
func TestAll(t *testing.T) {
	seed := drawer(3)
	for cols := 1; cols <= 6; cols++ {
		l := seed.rows(cols, 40, 2)
		f, _, _ := absorb.All(empty(cols), l)
		holdAll(t, f, nil, 0, api.OK)
		holdAll(t, f, []api.Row{}, 0, api.OK)
		holdAll(t, empty(cols), nil, 0, api.OK)
		holdAll(t, counted(filled(cols), 0, 4096), nil, 0, api.OK)
		holdAll(t, f, l[:9], 9, api.OK)
		holdAll(t, f, l[31:], 9, api.OK)
		for n := range 9 {
			for _, c := range []struct {
				r   api.Row
				err api.Errno
			}{{seed.row(cols+1, 2), api.ErrSize}, {api.Row{}, api.ErrSize}, {api.Row{X: make([]float64, cols), Y: infinity}, api.ErrRange}, {rowOf(slices.Repeat([]float64{high}, cols+1)...), api.ErrShed}} {
				m := slices.Clone(l[:9])
				m[n] = c.r
				holdAll(t, f, m, n, c.err)
			}
		}
		// Behind one that is refused, others are not looked at.
		holdAll(t, f, []api.Row{{}, {X: []float64{infinity}}, l[0]}, 0, api.ErrSize)
		holdAll(t, f, []api.Row{l[1], {Y: infinity}, {X: slices.Repeat([]float64{infinity}, cols)}, l[0]}, 1, api.ErrSize)
	}
}

// P11.3: up to where no rows are left, or there are too many rotations.
func TestAllUpToTheLastRow(t *testing.T) {
	for cols := 1; cols <= 6; cols++ {
		f, l := steep(cols, 100), slices.Repeat([]api.Row{rowOf(slices.Repeat([]float64{1}, cols+1)...)}, 20)
		holdAll(t, counted(f, 20, 0), l, 20, api.OK)
		holdAll(t, counted(f, 19, 0), l, 19, api.ErrFew)
		holdAll(t, counted(f, 0, 4096), l, 0, api.ErrFew)
		holdAll(t, counted(f, 200, 4096-10*(cols+1)), l, 10, api.ErrFull)
		holdAll(t, counted(f, 200, 4096-10*(cols+1)+1), l, 9, api.ErrFull)
		holdAll(t, counted(f, 10, 4096-10*(cols+1)), l, 10, api.ErrFew)
		holdAll(t, counted(f, 200, 4096), l, 0, api.ErrFull)
		zeros := slices.Repeat([]api.Row{rowOf(make([]float64, cols+1)...)}, 201)
		holdAll(t, counted(f, 200, 0), zeros, 200, api.ErrFew)
	}
}

// P11.3: wrong inputs.
func TestAllRefuses(t *testing.T) {
	for _, f := range wrong() {
		for _, l := range [][]api.Row{nil, {}, {{}}, {{X: []float64{1}, Y: 1}}, {{X: []float64{infinity}}}} {
			if g, n, err := All(f, l); !isZero(g) || n != 0 || err != api.ErrArg {
				t.Errorf("All(%v, %v): %v, %d, %d", f, l, g, n, err)
			}
		}
	}
}

// holdNear tells whether r was taken out of f; and if so, what is left, and r, have to be near to f.
func holdNear(t *testing.T, f api.Factor, r api.Row) bool {
	t.Helper()
	g, err := Row(f, r)
	if err != api.OK {
		return false
	}
	ahead, _ := gram.Factor(f)
	left, is := gram.Factor(g)
	out, _ := gram.Row(r)
	got, _ := gram.Add(left, out)
	if at, are := near.Check(f.Cols, ahead, ahead, got, f.Cols+1); !is || !are {
		t.Errorf("Row(%v, %v): %v: not near at %d", f, r, g, at)
	}
	for i := range f.Cols + 1 {
		if at := place(f.Cols, i, i); g.Tri[at] > f.Tri[at] {
			t.Errorf("Row(%v, %v): %v: grew at %d", f, r, g, at)
		}
	}
	return true
}

// P11.4: behind a row, the Gram list and the row's are near to that ahead; and the diagonal never grows.
func TestRowIsNear(t *testing.T) {
	seed := drawer(4)
	went := 0
	for cols := 1; cols <= 6; cols++ {
		for _, width := range []int{0, 1, 5, 30, 180} {
			for _, share := range []float64{1e-16, 0.1, 0.9, 1 - 1e-6, 1 - 1e-12, 1 - 4e-15, 1} {
				for range 10 {
					f := seed.factor(cols, width)
					if holdNear(t, f, rowOf(seed.part(f, share)...)) {
						went++
					}
				}
			}
		}
	}
	if went < 1000 {
		t.Errorf("only %d rows were taken out", went)
	}
}

// P11.4: likewise of rows that came in, near to the least that there may be, and beside entries that have few bits.
func TestRowsOfDataAreNear(t *testing.T) {
	seed := drawer(5)
	went := 0
	for cols := 1; cols <= 6; cols++ {
		for _, width := range []int{0, 4, 60, 399} {
			for range 10 {
				l := seed.rows(cols, cols+3, width)
				f, _, _ := absorb.All(empty(cols), l)
				for _, r := range l {
					if holdNear(t, f, r) {
						went++
					}
				}
				f.Tri = scaled(f.Tri, -700)
				for range 10 {
					r := rowOf(make([]float64, cols+1)...)
					r.Y = low * seed.float(0)
					if holdNear(t, f, r) {
						went++
					}
				}
			}
		}
	}
	if went < 1000 {
		t.Errorf("only %d rows were taken out", went)
	}
}

// P11.4: the diagonal never grows by what is hardly there.
func TestDiagonalNeverGrows(t *testing.T) {
	for e := -60; e <= -1; e++ {
		for n := range 64 {
			x := math.Ldexp(1+float64(n)/64, e)
			for _, d := range []float64{1, math.Nextafter(1, 2), math.Nextafter(1, 0), 1.5, 5.0 / 3} {
				f := steep(1, d)
				if !holdNear(t, f, rowOf(x, 0)) || !holdNear(t, f, rowOf(0, -x)) {
					t.Errorf("Row(%v, %v) is refused", f, x)
				}
			}
		}
	}
}

// P11.4: rows of zeros change no number of the triangle.
func TestRowsOfZeros(t *testing.T) {
	seed := drawer(6)
	for cols := 1; cols <= 6; cols++ {
		l := []api.Factor{counted(empty(cols), 1, 0), filled(cols), steep(cols, greatest), steep(cols, least), changed(filled(cols), 0, cols, greatest), changed(filled(cols), cols, cols, 0)}
		for _, width := range []int{0, 10, 417} {
			for range 20 {
				l = append(l, seed.factor(cols, width))
			}
		}
		for _, f := range l {
			for _, zero := range []float64{0, minusZero} {
				g, err := Row(f, rowOf(slices.Repeat([]float64{zero}, cols+1)...))
				if err != api.OK || !slices.Equal(g.Tri, f.Tri) || g.Rows != f.Rows-1 || g.Turns != f.Turns+cols+1 {
					t.Errorf("Row(%v, %v ..): %v, %d", f, zero, g, err)
				}
			}
		}
	}
}

// P11.4: the one row of a factor of one row can't be taken out, unless it is all zeros.
func TestTheOneRowStays(t *testing.T) {
	seed := drawer(7)
	for cols := 1; cols <= 6; cols++ {
		l := []api.Row{rowOf(slices.Repeat([]float64{high}, cols+1)...), rowOf(slices.Repeat([]float64{-low}, cols+1)...)}
		for i := range cols + 1 {
			for _, x := range []float64{1, -1, low, -high, 1.0 / 3} {
				only := make([]float64, cols+1)
				only[i] = x
				l = append(l, rowOf(only...))
			}
		}
		for _, width := range []int{0, 3, 399} {
			l = append(l, seed.rows(cols, 20, width)...)
		}
		for _, r := range l {
			if r.Y == 0 && !slices.ContainsFunc(r.X, func(x float64) bool { return x != 0 }) {
				continue
			}
			f, err := absorb.Row(empty(cols), r)
			if err != api.OK {
				t.Fatalf("absorb.Row(0, %v): %d", r, err)
			}
			holdRow(t, f, r, api.ErrShed)
			negative := copyRow(r)
			for i := range negative.X {
				negative.X[i] *= -1
			}
			negative.Y *= -1
			holdRow(t, f, negative, api.ErrShed)
		}
		zeros := rowOf(make([]float64, cols+1)...)
		f, _ := absorb.Row(empty(cols), zeros)
		if g, err := Row(f, zeros); err != api.OK || !sameFactor(g, counted(empty(cols), 0, 2*cols+2)) {
			t.Errorf("Row(%v, 0): %v, %d", f, g, err)
		}
	}
}

func copyRow(r api.Row) api.Row { return api.Row{X: slices.Clone(r.X), Y: r.Y} }

// What is told is what is wrapped, at whichever column.
func TestRefusalsAreToldByWhatTheyWrap(t *testing.T) {
	for _, c := range []struct {
		err  error
		want api.Errno
	}{{nil, api.OK}, {errArg, api.ErrArg}, {errSize, api.ErrSize}, {errRange, api.ErrRange}, {errFew, api.ErrFew}, {errFull, api.ErrFull}, {errShed, api.ErrShed}} {
		if got := number(c.err); got != c.want {
			t.Errorf("number(%v): %d, not %d", c.err, got, c.want)
		}
		if c.err == nil {
			continue
		}
		wrapped := refusal{3, c.err}
		if got := number(wrapped); got != c.want || !errors.Is(wrapped, c.err) || wrapped.Error() != "column 3: "+c.err.Error() {
			t.Errorf("number(%v): %d, not %d", wrapped, got, c.want)
		}
	}
	for j := range 3 {
		l := make([]float64, 3)
		l[j] = 2
		_, err := lessLine(steep(2, 2), l)
		var at refusal
		if !errors.As(err, &at) || at.column != j || at.cause != errShed {
			t.Errorf("lessLine at column %d: %v", j, err)
		}
	}
}

// R5: what is handed in is not changed, and no answer shares its memory.
func TestAnswersAreNewMemory(t *testing.T) {
	for cols := 1; cols <= 6; cols++ {
		f, l := steep(cols, 8), slices.Repeat([]float64{0.5}, cols+1)
		ahead, line := copied(f), slices.Clone(l)
		// X has room behind its entries, which is not the program's.
		r := api.Row{X: l[:cols], Y: 0.25}
		ask := []func() api.Factor{
			func() api.Factor { g, _ := Line(f, l); return g },
			func() api.Factor { g, _ := Row(f, r); return g },
			func() api.Factor { g, _, _ := All(f, []api.Row{r, r}); return g },
			func() api.Factor { g, _, _ := All(f, nil); return g },
			func() api.Factor { g, _, _ := All(f, []api.Row{{}, r}); return g },
		}
		for i, call := range ask {
			g := call()
			if !sameFactor(f, ahead) || !sameList(l, line) {
				t.Fatalf("call %d changed what was handed in: %v, %v", i, f, l)
			}
			if len(g.Tri) != size(cols) {
				t.Fatalf("call %d: %v", i, g)
			}
			clear(g.Tri)
			if !sameFactor(f, ahead) || !sameList(l, line) {
				t.Fatalf("call %d shares what was handed in: %v, %v", i, f, l)
			}
		}
		l[cols], line[cols] = 9, 9
		refusesLine(t, f, l, api.ErrShed)
		if !sameFactor(f, ahead) || !sameList(l, line) {
			t.Fatalf("what was handed in is changed: %v, %v", f, l)
		}
	}
}
