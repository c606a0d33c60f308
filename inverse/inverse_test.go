package inverse

import (
	"math"
	"math/big"
	"slices"
	"testing"

	"levelling/api"
	"levelling/bits"
	"levelling/stats"
)

const least = math.SmallestNonzeroFloat64

var (
	minusZero = math.Copysign(0, -1)
	infinity  = math.Inf(1)
	// A triangle's entries end here.
	greatest = math.Ldexp(1, 420)
	tooGreat = math.Nextafter(greatest, infinity)
)

func sameBits(a, b float64) bool { return math.Float64bits(a) == math.Float64bits(b) }

func sameList(a, b []float64) bool { return slices.EqualFunc(a, b, sameBits) }

func copied(f api.Factor) api.Factor {
	f.Tri = slices.Clone(f.Tri)
	return f
}

func size(cols int) int { return (cols + 1) * (cols + 2) / 2 }

func place(cols, i, j int) int {
	at := 0
	for row := range i {
		at += cols + 1 - row
	}
	return at + j - i
}

// table is f's triangle with all its places.
func table(f api.Factor) [][]float64 {
	m := make([][]float64, f.Cols+1)
	at := 0
	for i := range m {
		m[i] = make([]float64, f.Cols+1)
		at += copy(m[i][i:], f.Tri[at:])
	}
	return m
}

// changed is f with x in the place of row i, column j.
func changed(f api.Factor, i, j int, x float64) api.Factor {
	f = copied(f)
	f.Tri[place(f.Cols, i, j)] = x
	return f
}

// counted is f with other numbers of rows and rotations.
func counted(f api.Factor, rows, turns int) api.Factor {
	f.Rows, f.Turns = rows, turns
	return f
}

// filled is a factor of so many columns, no two entries of which are the same.
func filled(cols int) api.Factor {
	f := api.Factor{Cols: cols, Rows: 9, Turns: 5}
	for at := range size(cols) {
		f.Tri = append(f.Tri, -0.5-float64(at))
	}
	for i := range cols + 1 {
		f.Tri[place(cols, i, i)] *= -1
	}
	return f
}

// diagonal is a factor that has d on the diagonal, but last as its last entry, and zeros else.
func diagonal(cols int, d, last float64) api.Factor {
	f := api.Factor{Cols: cols, Tri: make([]float64, size(cols)), Rows: 9}
	for i := range cols {
		f.Tri[place(cols, i, i)] = d
	}
	f.Tri[place(cols, cols, cols)] = last
	return f
}

// part is a factor of two columns with that square part.
func part(a, b, c float64) api.Factor {
	return api.Factor{Cols: 2, Tri: []float64{a, b, 0, c, 0, 1}, Rows: 3}
}

// wrong has factors that may not be.
func wrong() []api.Factor {
	l := []api.Factor{{}, {Cols: 1}, {Cols: 1, Rows: 9}, {Tri: make([]float64, 3), Rows: 9}, {Cols: 7, Tri: slices.Repeat([]float64{1}, 36), Rows: 9}, {Cols: -1, Tri: []float64{1}, Rows: 9}, {Cols: math.MaxInt}, {Cols: math.MinInt, Rows: math.MaxInt}, {Cols: math.MaxInt - 1, Tri: make([]float64, 3), Rows: math.MinInt}}
	for cols := 1; cols <= 6; cols++ {
		f := filled(cols)
		l = append(l, changed(f, 0, 0, minusZero), changed(f, cols, cols, -1), changed(f, 0, cols, tooGreat), changed(f, 0, 1, math.NaN()), changed(f, cols, cols, infinity))
		l = append(l, changed(changed(f, 0, 0, 0), cols, cols, minusZero), changed(diagonal(cols, least, 1), 0, cols, infinity))
		l = append(l, counted(f, -1, 0), counted(f, 201, 0), counted(f, 9, -1), counted(f, 9, 4097), counted(f, math.MaxInt, 0), counted(f, math.MinInt, 0), counted(f, 0, math.MinInt))
		l = append(l, api.Factor{Cols: cols, Tri: f.Tri[1:], Rows: 9}, api.Factor{Cols: cols, Tri: append(slices.Clone(f.Tri), 1), Rows: 9}, api.Factor{Cols: cols%6 + 1, Tri: f.Tri, Rows: 9})
	}
	return l
}

// drawer hands out floats, the same ones again for each start.
type drawer uint64

func (d *drawer) next() uint64 {
	*d ^= *d << 13
	*d ^= *d >> 7
	*d ^= *d << 17
	return uint64(*d)
}

func (d *drawer) nonzero(width int) float64 {
	x := math.Ldexp(1+float64(d.next()>>12)/(1<<52), int(d.next()%uint64(2*width+1))-width)
	return math.Copysign(x, float64(int64(d.next())))
}

// float has any fraction and sign; its exponent is at most width away from 0. Some are zeros.
func (d *drawer) float(width int) float64 {
	if d.next()%8 == 0 {
		return math.Copysign(0, float64(int64(d.next())))
	}
	return d.nonzero(width)
}

// factor has more rows than columns, and no 0 on the diagonal but the last one, if width is at most 419.
func (d *drawer) factor(cols, width int) api.Factor {
	f := api.Factor{Cols: cols, Rows: cols + 1 + int(d.next()%uint64(200-cols)), Turns: 1}
	for range size(cols) {
		f.Tri = append(f.Tri, d.float(width))
	}
	for i := range cols {
		f.Tri[place(cols, i, i)] = math.Abs(d.nonzero(width))
	}
	f.Tri[place(cols, cols, cols)] = math.Abs(d.float(width))
	return f
}

// scaled is f, each entry times 2 to the power of k, rounded.
func scaled(f api.Factor, k int) api.Factor {
	f = copied(f)
	for i := range f.Tri {
		f.Tri[i] = math.Ldexp(f.Tri[i], k)
	}
	return f
}

// kinds are factors near to f: great ones, small ones, those that have a 0 or little on the diagonal.
func (d *drawer) kinds(f api.Factor) []api.Factor {
	i := int(d.next() % uint64(f.Cols))
	return []api.Factor{f, scaled(f, -530), scaled(f, -1060), changed(f, i, i, 0), changed(f, i, i, math.Ldexp(1, -int(600+d.next()%475))), counted(f, int(d.next()%200), 4096)}
}

func numbers(l []float64) bool {
	for _, x := range l {
		if x-x != 0 {
			return false
		}
	}
	return true
}

// inverseByWords says P18.1 over again, of a factor that may be: the inverse with all its places.
func inverseByWords(f api.Factor) ([][]float64, api.Errno) {
	m, n := table(f), f.Cols
	for i := range n {
		if m[i][i] == 0 {
			return nil, api.ErrSing
		}
	}
	w := make([][]float64, n)
	for i := range w {
		w[i] = make([]float64, n)
	}
	for j := 0; j < n; j++ {
		w[j][j] = float64(1 / m[j][j])
		for i := j - 1; i >= 0; i-- {
			rest := 0.0
			for k := i + 1; k <= j; k++ {
				product := float64(m[i][k] * w[k][j])
				rest = float64(rest - product)
			}
			w[i][j] = float64(rest / m[i][i])
		}
	}
	for _, l := range w {
		if !numbers(l) {
			return nil, api.ErrRange
		}
	}
	return w, api.OK
}

// oneByWords says P18.2 over again, of the first n rows and columns.
func oneByWords(m [][]float64, n int) float64 {
	most := 0.0
	for j := 0; j < n; j++ {
		sum := 0.0
		for i := 0; i <= j; i++ {
			sum = float64(sum + math.Abs(m[i][j]))
		}
		most = math.Max(most, sum)
	}
	return most
}

// condByWords says P18.3 over again.
func condByWords(f api.Factor) (float64, api.Errno) {
	w, err := inverseByWords(f)
	if err != api.OK {
		return 0, err
	}
	cond := float64(oneByWords(table(f), f.Cols) * oneByWords(w, f.Cols))
	if math.IsInf(cond, 0) {
		return 0, api.ErrRange
	}
	return cond, api.OK
}

// sizeByWords says of P18.4 what a row's size is.
func sizeByWords(l []float64) float64 {
	k := -2000
	for _, x := range l {
		if bits.Top(x) > k {
			k = bits.Top(x)
		}
	}
	if k < -1000 {
		k = -1000
	}
	if k > 1000 {
		k = 1000
	}
	sum := 0.0
	for _, x := range l {
		y := math.Ldexp(x, -k)
		product := float64(y * y)
		sum = float64(sum + product)
	}
	return math.Ldexp(math.Sqrt(sum), k)
}

// errorsByWords says P18.4 over again, of a factor that may be.
func errorsByWords(f api.Factor) ([]float64, api.Errno) {
	s, err := stats.Of(f)
	if err != api.OK {
		return nil, err
	}
	w, err := inverseByWords(f)
	if err != api.OK {
		return nil, err
	}
	var l []float64
	for i, row := range w {
		l = append(l, float64(math.Sqrt(s.Var)*sizeByWords(row[i:])))
	}
	if !numbers(l) {
		return nil, api.ErrRange
	}
	return l, api.OK
}

// hold holds all four calls against the chapter's words, of a factor that may be, and tells their errors.
func hold(t *testing.T, f api.Factor) [3]api.Errno {
	t.Helper()
	w, a := Rows(f)
	full, wrong := inverseByWords(f)
	var want []float64
	for i, row := range full {
		want = append(want, row[i:]...)
	}
	if a != wrong || !sameList(w, want) {
		t.Errorf("Rows(%v): %v, %d, not %v, %d", f, w, a, want, wrong)
	}
	if one, err := One(f); err != api.OK || !sameBits(one, oneByWords(table(f), f.Cols)) {
		t.Errorf("One(%v): %v, %d, not %v", f, one, err, oneByWords(table(f), f.Cols))
	}
	cond, b := Cond(f)
	if want, wrong := condByWords(f); b != wrong || !sameBits(cond, want) {
		t.Errorf("Cond(%v): %v, %d, not %v, %d", f, cond, b, want, wrong)
	}
	l, c := Errors(f)
	if want, wrong := errorsByWords(f); c != wrong || !sameList(l, want) {
		t.Errorf("Errors(%v): %v, %d, not %v, %d", f, l, c, want, wrong)
	}
	return [3]api.Errno{a, b, c}
}

// P18.1: the document's example, and numbers by hand.
func TestRows(t *testing.T) {
	for _, c := range []struct{ tri, want []float64 }{
		{[]float64{2, 1, 5, 4, 8, 3}, []float64{0.5, -0.125, 0.25}},
		{[]float64{1, 2, 3, 14, 2, -1, 1, 4, 12, 7}, []float64{1, -1, -1, 0.5, 0.125, 0.25}},
		{[]float64{4, 1, 1}, []float64{0.25}},
		{[]float64{3, greatest, 0}, []float64{1.0 / 3}},
		// The last row and the last column are of no moment.
		{[]float64{2, 1, -greatest, 4, least, 0}, []float64{0.5, -0.125, 0.25}},
		// From +0 on, whichever zero is taken.
		{[]float64{1, 0, 0, 1, 0, 0}, []float64{1, 0, 1}},
		{[]float64{1, minusZero, 0, 1, 0, 0}, []float64{1, 0, 1}},
		// What vanishes keeps the sign of what was divided.
		{[]float64{greatest, least, 0, 1, 0, 0}, []float64{math.Ldexp(1, -420), minusZero, 1}},
		{[]float64{greatest, -least, 0, 1, 0, 0}, []float64{math.Ldexp(1, -420), 0, 1}},
		// In the last column 1 is taken ahead of 2^60, and is lost; the other way around it would stay.
		{[]float64{1, 1, 0x1p60, 0x1p60, 0, 1, 0, -1, 0, 1, 1, 0, 1, 0, 0}, []float64{1, -1, -0x1p60, 0, 1, 0, 1, 1, -1, 1}},
		// The product is rounded to 1 ahead of being taken.
		{[]float64{1, 1, -(1 + 0x1p-30), 0, 1, -(1 + 0x1p-30), 0, 1 + 0x1p-30, 0, 0}, []float64{1, -1, 0, 1, 1, 1 - 0x1p-30}},
		{[]float64{math.Ldexp(1, -1023), 1, 1}, []float64{math.Ldexp(1, 1023)}},
		{[]float64{greatest, 1, 1}, []float64{math.Ldexp(1, -420)}},
	} {
		cols := []int{0, 0, 0, 1, 0, 0, 2, 0, 0, 0, 3, 0, 0, 0, 0, 4}[len(c.tri)]
		f := api.Factor{Cols: cols, Tri: c.tri, Rows: 4}
		if w, err := Rows(f); err != api.OK || !sameList(w, c.want) {
			t.Errorf("Rows(%v): %v, %d, not %v", f, w, err, c.want)
		}
		hold(t, f)
	}
}

// P18.2: numbers by hand.
func TestOne(t *testing.T) {
	for _, c := range []struct {
		tri  []float64
		want float64
	}{
		{[]float64{2, 1, 5, 4, 8, 3}, 5},
		{[]float64{1, 2, 3, 14, 2, -1, 1, 4, 12, 7}, 8},
		{[]float64{9, 2, 3, 14, 2, -1, 1, 4, 12, 7}, 9},
		{[]float64{1, -7, 3, 14, 2, -1, 1, 4, 12, 7}, 9},
		// The last row and the last column are of no moment; nor is a 0 on the diagonal.
		{[]float64{2, 1, greatest, 0, -greatest, greatest}, 2},
		{[]float64{0, minusZero, 1, 0, 1, 1}, 0},
		{[]float64{0, 1, 1}, 0},
		{[]float64{least, 1, 1}, least},
		{[]float64{1, -greatest, 1, greatest, 1, 1}, math.Ldexp(1, 421)},
		// From row 0 on: 2^53, and 1 more, twice, is 2^53; the other way around it is 2 more.
		{[]float64{0, 0, 0x1p53, 0, 0, 1, 0, 1, 0, 0}, 0x1p53},
		{[]float64{0, 0, 1, 0, 0, 1, 0, 0x1p53, 0, 0}, 0x1p53 + 2},
	} {
		cols := []int{0, 0, 0, 1, 0, 0, 2, 0, 0, 0, 3}[len(c.tri)]
		f := api.Factor{Cols: cols, Tri: c.tri}
		if one, err := One(f); err != api.OK || !sameBits(one, c.want) {
			t.Errorf("One(%v): %v, %d, not %v", f, one, err, c.want)
		}
		hold(t, f)
	}
}

// P18.3: the document's example, and numbers by hand.
func TestCond(t *testing.T) {
	for _, c := range []struct {
		f    api.Factor
		want float64
	}{
		{api.Factor{Cols: 2, Tri: []float64{2, 1, 5, 4, 8, 3}}, 5 * 0.5},
		{api.Factor{Cols: 3, Tri: []float64{1, 2, 3, 14, 2, -1, 1, 4, 12, 7}}, 8 * 1.5},
		{diagonal(1, 8, 0), 1},
		{diagonal(6, greatest, 5), 1},
		{part(1, -1, 1), 4},
		{part(greatest, 0, math.Ldexp(1, -603)), math.Ldexp(1, 1023)},
	} {
		if cond, err := Cond(c.f); err != api.OK || !sameBits(cond, c.want) {
			t.Errorf("Cond(%v): %v, %d, not %v", c.f, cond, err, c.want)
		}
		hold(t, c.f)
	}
}

// P18.4: numbers by hand.
func TestErrors(t *testing.T) {
	third := math.Sqrt(1.0 / 3)
	for _, c := range []struct {
		f    api.Factor
		want []float64
	}{
		{api.Factor{Cols: 1, Tri: []float64{4, 1, 6}, Rows: 5}, []float64{0.75}},
		{api.Factor{Cols: 1, Tri: []float64{4, 1, 1}, Rows: 4}, []float64{third * 0.25}},
		// A row of 3/4 and 1 has a size of 5/4; the last one has 2.
		{api.Factor{Cols: 2, Tri: []float64{4.0 / 3, -2.0 / 3, 0, 0.5, 0, 3}, Rows: 3}, []float64{3.75, 6}},
		{diagonal(6, 0.25, 0), []float64{0, 0, 0, 0, 0, 0}},
		// The inverse's squares would be too great, or the answer's too small.
		{diagonal(2, math.Ldexp(1, -700), math.Ldexp(1, -300)), []float64{math.Sqrt(math.Ldexp(1, -600)/7) * math.Ldexp(1, 700), math.Sqrt(math.Ldexp(1, -600)/7) * math.Ldexp(1, 700)}},
		{diagonal(1, greatest, math.Ldexp(1, -537)), []float64{math.Sqrt(math.Ldexp(1, -1074)/8) * math.Ldexp(1, -420)}},
		// Greater than what rows are scaled by.
		{counted(diagonal(1, math.Ldexp(1, -1023), 1), 2, 0), []float64{math.Ldexp(1, 1023)}},
		{counted(diagonal(1, math.Ldexp(1, -1010), 1), 5, 0), []float64{math.Ldexp(1, 1009)}},
	} {
		l, err := Errors(c.f)
		nearly := slices.EqualFunc(l, c.want, func(a, b float64) bool { return math.Abs(a-b) <= 0x1p-50*b })
		if err != api.OK || !nearly {
			t.Errorf("Errors(%v): %v, %d, not %v", c.f, l, err, c.want)
		}
		hold(t, c.f)
	}
}

// P18.1 to P18.4: bit by bit, of all kinds of triangles.
func TestCountsOneByOne(t *testing.T) {
	seed := drawer(1)
	var count [3]map[api.Errno]int
	for i := range count {
		count[i] = map[api.Errno]int{}
	}
	for cols := 1; cols <= 6; cols++ {
		for _, width := range []int{0, 1, 20, 100, 200, 419} {
			for range 150 {
				for _, f := range seed.kinds(seed.factor(cols, width)) {
					for i, err := range hold(t, f) {
						count[i][err]++
					}
				}
			}
		}
	}
	for i, c := range count {
		if c[api.OK] < 8000 || c[api.ErrSing] < 5000 || c[api.ErrRange] < 4000 || c[api.ErrFew] != 0 && i < 2 || c[api.ErrFew] < 50 && i == 2 || c[api.ErrArg] != 0 {
			t.Errorf("call %d: %v", i, c)
		}
	}
}

// refuses holds the three calls that have more than one error to them.
func refuses(t *testing.T, f api.Factor, rows, cond, errors api.Errno) {
	t.Helper()
	if w, err := Rows(f); err != rows || rows != api.OK && len(w) != 0 {
		t.Errorf("Rows(%v): %v, %d, not %d", f, w, err, rows)
	}
	if x, err := Cond(f); err != cond || cond != api.OK && !sameBits(x, 0) {
		t.Errorf("Cond(%v): %v, %d, not %d", f, x, err, cond)
	}
	if l, err := Errors(f); err != errors || errors != api.OK && len(l) != 0 {
		t.Errorf("Errors(%v): %v, %d, not %d", f, l, err, errors)
	}
}

// P18.1 to P18.4: what may not be is refused first.
func TestRefusesWhatMayNotBe(t *testing.T) {
	for _, f := range wrong() {
		refuses(t, f, api.ErrArg, api.ErrArg, api.ErrArg)
		if one, err := One(f); err != api.ErrArg || !sameBits(one, 0) {
			t.Errorf("One(%v): %v, %d", f, one, err)
		}
	}
}

// P18.1, P18.3, P18.4: a 0 on the diagonal is told ahead of what is too great, and behind too few rows.
func TestRefusesSingular(t *testing.T) {
	for cols := 1; cols <= 6; cols++ {
		for i := range cols {
			f := changed(filled(cols), i, i, 0)
			refuses(t, f, api.ErrSing, api.ErrSing, api.ErrSing)
			refuses(t, counted(f, cols, 0), api.ErrSing, api.ErrSing, api.ErrFew)
			refuses(t, counted(f, 0, 0), api.ErrSing, api.ErrSing, api.ErrFew)
			refuses(t, changed(diagonal(cols, least, 1), i, i, 0), api.ErrSing, api.ErrSing, api.ErrSing)
			hold(t, f)
		}
		refuses(t, diagonal(cols, 0, 0), api.ErrSing, api.ErrSing, api.ErrSing)
		refuses(t, counted(filled(cols), cols, 0), api.OK, api.OK, api.ErrFew)
		refuses(t, counted(filled(cols), cols+1, 0), api.OK, api.OK, api.OK)
		refuses(t, counted(diagonal(cols, least, 1), cols, 0), api.ErrRange, api.ErrRange, api.ErrFew)
		// The last entry on the diagonal is not of the square part.
		refuses(t, changed(filled(cols), cols, cols, 0), api.OK, api.OK, api.OK)
	}
}

// P18.1, P18.3, P18.4: an entry of the inverse that is too great, in each place.
func TestRefusesTooGreat(t *testing.T) {
	for cols := 1; cols <= 6; cols++ {
		for j := range cols {
			refuses(t, changed(diagonal(cols, 1, 1), j, j, least), api.ErrRange, api.ErrRange, api.ErrRange)
			refuses(t, changed(diagonal(cols, 1, 0), j, j, math.Ldexp(1, -1024)), api.ErrRange, api.ErrRange, api.ErrRange)
			refuses(t, changed(diagonal(cols, 1, 0), j, j, math.Ldexp(1, -1022)), api.OK, api.OK, api.OK)
			for i := range j {
				// Above the diagonal alone: a product, and a quotient.
				f := changed(diagonal(cols, 1, 0), j, j, math.Ldexp(1, -700))
				refuses(t, f, api.OK, api.OK, api.OK)
				refuses(t, changed(f, i, j, greatest), api.ErrRange, api.ErrRange, api.ErrRange)
				refuses(t, changed(f, i, j, -greatest), api.ErrRange, api.ErrRange, api.ErrRange)
				g := changed(f, i, i, math.Ldexp(1, -700))
				refuses(t, changed(g, i, j, 1), api.ErrRange, api.ErrRange, api.ErrRange)
				refuses(t, changed(g, i, j, math.Ldexp(1, -400)), api.OK, api.OK, api.OK)
			}
			if j > 1 {
				// Two products that are too great leave NaN.
				f := changed(changed(diagonal(cols, 1, 0), j, j, math.Ldexp(1, -700)), j-1, j, -math.Ldexp(1, 10))
				refuses(t, changed(changed(f, 0, j-1, greatest), 0, j, -greatest), api.ErrRange, api.ErrRange, api.ErrRange)
			}
		}
	}
}

// P18.3: the inverse is of numbers, but what comes of it is none.
func TestCondRefusesTooGreat(t *testing.T) {
	refuses(t, part(greatest, 0, math.Ldexp(1, -604)), api.OK, api.ErrRange, api.OK)
	refuses(t, part(greatest, 0, math.Ldexp(1, -603)), api.OK, api.OK, api.OK)
	// A column's sum alone is too great.
	refuses(t, part(1, -1, math.Ldexp(1, -1023)), api.OK, api.ErrRange, api.OK)
	refuses(t, part(1, -0.5, math.Ldexp(1, -1023)), api.OK, api.OK, api.OK)
}

// P18.4: the inverse is of numbers, but an error is none.
func TestErrorsRefusesTooGreat(t *testing.T) {
	for cols := 1; cols <= 6; cols++ {
		for i := range cols {
			// Just at the greatest float: the root of a square is what was squared.
			f := changed(diagonal(cols, 1, math.Nextafter(greatest, 0)), i, i, math.Ldexp(1, -604))
			f.Rows = cols + 1
			l, err := Errors(f)
			if err != api.OK || l[i] != math.MaxFloat64 {
				t.Errorf("Errors(%v): %v, %d", f, l, err)
			}
			refuses(t, changed(f, cols, cols, greatest), api.OK, api.OK, api.ErrRange)
			// Var as a number of more rows is less.
			refuses(t, counted(changed(f, cols, cols, greatest), cols+2, 0), api.OK, api.OK, api.OK)
		}
	}
	// A row's size is too great, whatever it is multiplied by; by 0 it is NaN.
	steep := changed(part(0x1p-1023, -1, 1), 2, 2, 0)
	for _, last := range []float64{0, least, math.Ldexp(1, -400), 1} {
		refuses(t, changed(steep, 2, 2, last), api.OK, api.ErrRange, api.OK)
		refuses(t, changed(changed(steep, 0, 1, -1.75), 2, 2, last), api.OK, api.ErrRange, api.ErrRange)
	}
}

func ratOf(x float64) *big.Rat { return new(big.Rat).SetFloat64(x) }

func within(off, bound *big.Rat) bool { return new(big.Rat).Abs(off).Cmp(bound) <= 0 }

func sum(a, b *big.Rat) *big.Rat { return new(big.Rat).Add(a, b) }

func product(a, b *big.Rat) *big.Rat { return new(big.Rat).Mul(a, b) }

// power is 2 to the power of -k, which may be too small for floats.
func power(k uint) *big.Rat {
	return new(big.Rat).SetFrac(big.NewInt(1), new(big.Int).Lsh(big.NewInt(1), k))
}

// holdProduct holds the square part times each column of its inverse against P18.5, as in P16.4.
func holdProduct(t *testing.T, f api.Factor, w [][]float64) {
	t.Helper()
	m, n := table(f), f.Cols
	for j := range n {
		for i := range n {
			off, sizes := new(big.Rat), new(big.Rat)
			if i == j {
				off.SetInt64(-1)
			}
			for k := range n {
				p := product(ratOf(m[i][k]), ratOf(w[k][j]))
				off.Add(off, p)
				sizes.Add(sizes, p.Abs(p))
			}
			tiny := product(power(1070), sum(big.NewRat(int64(n), 1), ratOf(m[i][i])))
			if !within(off, sum(product(ratOf(float64(n+2)*0x1p-53), sizes), tiny)) {
				t.Errorf("Rows(%v): %v: far in row %d, column %d", f, w, i, j)
			}
		}
	}
}

// holdCond holds a cond that was told against P18.5.
func holdCond(t *testing.T, f api.Factor, cond float64) {
	t.Helper()
	m, one, low := table(f), new(big.Rat), math.Inf(1)
	for j := range f.Cols {
		column := new(big.Rat)
		for i := range j + 1 {
			column.Add(column, ratOf(math.Abs(m[i][j])))
		}
		if column.Cmp(one) > 0 {
			one = column
		}
		low = math.Min(low, m[j][j])
	}
	most := ratOf(1 - 0x1p-40)
	if ratOf(cond).Cmp(most) < 0 || ratOf(cond).Cmp(product(most, one.Quo(one, ratOf(low)))) < 0 {
		t.Errorf("Cond(%v): %v is too little", f, cond)
	}
}

// holdErrors holds errors that were told against P18.5.
func holdErrors(t *testing.T, f api.Factor, w [][]float64, l []float64) {
	t.Helper()
	s, _ := stats.Of(f)
	for i, x := range l {
		want := new(big.Rat)
		for _, y := range w[i] {
			want.Add(want, product(ratOf(y), ratOf(y)))
		}
		want.Mul(want, ratOf(s.Var))
		off := new(big.Rat).Sub(product(ratOf(x), ratOf(x)), want)
		if !within(off, sum(product(ratOf(float64(f.Cols+10)*0x1p-53), want), power(2040))) {
			t.Errorf("Errors(%v): %v: far for column %d", f, l, i)
		}
	}
}

// unpacked is an inverse that was told, with all its places.
func unpacked(cols int, w []float64) [][]float64 {
	m := make([][]float64, cols)
	for i := range m {
		m[i] = make([]float64, cols)
		w = w[copy(m[i][i:], w):]
	}
	return m
}

// P18.5: what follows, of triangles of all kinds.
func TestWhatFollows(t *testing.T) {
	seed := drawer(2)
	var done [3]int
	for cols := 1; cols <= 6; cols++ {
		for _, width := range []int{0, 1, 10, 60, 200, 419} {
			for range 25 {
				for _, f := range seed.kinds(seed.factor(cols, width)) {
					l, err := Rows(f)
					if err != api.OK {
						continue
					}
					w := unpacked(cols, l)
					holdProduct(t, f, w)
					done[0]++
					if cond, err := Cond(f); err == api.OK {
						holdCond(t, f, cond)
						done[1]++
					}
					if l, err := Errors(f); err == api.OK {
						holdErrors(t, f, w, l)
						done[2]++
					}
				}
			}
		}
	}
	for i, n := range done {
		if n < 1500 {
			t.Errorf("call %d: only %d were held", i, n)
		}
	}
}

// R5: what is handed in is not changed, and each answer is memory of its own.
func TestAnswersAreNewMemory(t *testing.T) {
	for cols := 1; cols <= 6; cols++ {
		f := filled(cols)
		f.Rows = cols + 1
		for i, call := range []func(api.Factor) ([]float64, api.Errno){Rows, Errors} {
			first, err := call(f)
			again := slices.Clone(first)
			clear(first)
			if second, _ := call(f); err != api.OK || len(again) == 0 || !sameList(second, again) || !sameList(f.Tri, filled(cols).Tri) {
				t.Errorf("call %d: what was handed in is changed: %v", i, f)
			}
		}
		hold(t, f)
		if !sameList(f.Tri, filled(cols).Tri) {
			t.Errorf("what was handed in is changed: %v", f)
		}
	}
}
