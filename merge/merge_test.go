package merge

import (
	"math"
	"slices"
	"testing"

	"levelling/absorb"
	"levelling/api"
	"levelling/givens"
	"levelling/gram"
	"levelling/near"
)

const least = math.SmallestNonzeroFloat64

var (
	minusZero = math.Copysign(0, -1)
	infinity  = math.Inf(1)
	// A triangle's entries end here.
	greatest = math.Ldexp(1, 420)
	tooGreat = math.Nextafter(greatest, infinity)
)

func sameBits(a, b float64) bool { return math.Float64bits(a) == math.Float64bits(b) }

func sameList(a, b []float64) bool { return slices.EqualFunc(a, b, sameBits) }

func sameFactor(a, b api.Factor) bool {
	return a.Cols == b.Cols && a.Rows == b.Rows && a.Turns == b.Turns && sameList(a.Tri, b.Tri)
}

func isZero(f api.Factor) bool { return sameFactor(f, api.Factor{}) }

func copied(f api.Factor) api.Factor {
	f.Tri = slices.Clone(f.Tri)
	return f
}

func size(cols int) int { return (cols + 1) * (cols + 2) / 2 }

func place(cols, i, j int) int {
	at := 0
	for row := range i {
		at += cols + 1 - row
	}
	return at + j - i
}

// empty is a new factor.
func empty(cols int) api.Factor {
	return api.Factor{Cols: cols, Tri: make([]float64, size(cols))}
}

// filled is a factor of so many columns, no two entries of which are the same.
func filled(cols int) api.Factor {
	f := api.Factor{Cols: cols, Rows: 3, Turns: 5}
	for at := range size(cols) {
		f.Tri = append(f.Tri, -0.5-float64(at))
	}
	for i := range cols + 1 {
		f.Tri[place(cols, i, i)] *= -1
	}
	return f
}

// changed is f with x in the place of row i, column j.
func changed(f api.Factor, i, j int, x float64) api.Factor {
	f = copied(f)
	f.Tri[place(f.Cols, i, j)] = x
	return f
}

// counted is f with other numbers of rows and rotations.
func counted(f api.Factor, rows, turns int) api.Factor {
	f.Rows, f.Turns = rows, turns
	return f
}

// wrong has factors that may not be.
func wrong() []api.Factor {
	l := []api.Factor{{}, {Cols: 1}, {Tri: make([]float64, 3)}, {Cols: 7, Tri: make([]float64, 36)}, {Cols: -1, Tri: make([]float64, 1)}, {Cols: -3, Tri: make([]float64, 1)}, {Cols: math.MaxInt}, {Cols: math.MinInt}, {Cols: math.MaxInt - 1, Tri: make([]float64, 3)}}
	for cols := 1; cols <= 6; cols++ {
		f := filled(cols)
		l = append(l, changed(f, 0, 0, minusZero), changed(f, cols, cols, -1), changed(f, 0, cols, tooGreat), changed(f, 0, 1, math.NaN()), changed(f, cols, cols, infinity))
		l = append(l, counted(f, -1, 0), counted(f, 201, 0), counted(f, 0, -1), counted(f, 0, 4097), counted(f, math.MaxInt, 0), counted(f, 0, math.MaxInt), counted(f, math.MinInt, 0), counted(f, 0, math.MinInt))
		l = append(l, api.Factor{Cols: cols, Tri: f.Tri[1:]}, api.Factor{Cols: cols, Tri: append(slices.Clone(f.Tri), 1)}, api.Factor{Cols: cols%6 + 1, Tri: f.Tri})
	}
	return l
}

// drawer hands out floats, the same ones again for each start.
type drawer uint64

func (d *drawer) next() uint64 {
	*d ^= *d << 13
	*d ^= *d >> 7
	*d ^= *d << 17
	return uint64(*d)
}

// float has any fraction and sign; its exponent is at most width away from 0. Some are zeros.
func (d *drawer) float(width int) float64 {
	if d.next()%8 == 0 {
		return math.Copysign(0, float64(int64(d.next())))
	}
	x := math.Ldexp(1+float64(d.next()>>12)/(1<<52), int(d.next()%uint64(2*width+1))-width)
	if d.next()%2 == 0 {
		return -x
	}
	return x
}

func (d *drawer) list(n, width int) []float64 {
	l := make([]float64, n)
	for i := range l {
		l[i] = d.float(width)
	}
	return l
}

// row has entries that are In, if width is below 400.
func (d *drawer) row(cols, width int) api.Row {
	return api.Row{X: d.list(cols, width), Y: d.float(width)}
}

func (d *drawer) rows(cols, n, width int) []api.Row {
	l := make([]api.Row, n)
	for i := range l {
		l[i] = d.row(cols, width)
	}
	return l
}

func (d *drawer) factor(cols, width int) api.Factor {
	f := api.Factor{Cols: cols, Tri: d.list(size(cols), width), Rows: 1, Turns: 1}
	for i := range cols + 1 {
		at := place(cols, i, i)
		f.Tri[at] = math.Abs(f.Tri[at])
	}
	return f
}

// square is f's triangle with all its places.
func square(f api.Factor) [][]float64 {
	m := make([][]float64, f.Cols+1)
	at := 0
	for i := range m {
		m[i] = make([]float64, f.Cols+1)
		at += copy(m[i][i:], f.Tri[at:])
	}
	return m
}

// scaled is each of l, times 2 to the power of k.
func scaled(l []float64, k int) []float64 {
	l = slices.Clone(l)
	for i := range l {
		l[i] = math.Ldexp(l[i], k)
	}
	return l
}

// P13.1
func TestCost(t *testing.T) {
	for cols, want := range []int{0, 3, 6, 10, 15, 21, 28, 0, 0} {
		if n := Cost(cols); n != want {
			t.Errorf("Cost(%d): %d, not %d", cols, n, want)
		}
	}
	for _, cols := range []int{-1, -2, -3, math.MinInt, math.MaxInt, math.MaxInt - 1, 1 << 32} {
		if n := Cost(cols); n != 0 {
			t.Errorf("Cost(%d): %d", cols, n)
		}
	}
}

// twoByWords says P13.2 over again, on triangles that have all their places, where both may be and fit; false, if what comes may not be.
func twoByWords(a, b api.Factor) (api.Factor, bool) {
	m := square(a)
	for i, l := range square(b) {
		for j := i; j <= a.Cols; j++ {
			c, s, r, is := givens.Of(m[j][j], l[j])
			if !is {
				return api.Factor{}, false
			}
			m[j][j] = r
			for k := j + 1; k <= a.Cols; k++ {
				x, y := givens.Turn(c, s, m[j][k], l[k])
				m[j][k], l[k] = x, y
			}
		}
		for _, row := range m {
			for _, x := range row {
				if !(math.Abs(x) <= greatest) {
					return api.Factor{}, false
				}
			}
		}
	}
	f := api.Factor{Cols: a.Cols, Rows: a.Rows + b.Rows, Turns: a.Turns + size(a.Cols)}
	if b.Turns > a.Turns {
		f.Turns = b.Turns + size(a.Cols)
	}
	for i, row := range m {
		f.Tri = append(f.Tri, row[i:]...)
	}
	return f, true
}

// holdTwo holds Two against the chapter's words, where nothing is wrong ahead of counting, and tells whether both were told.
func holdTwo(t *testing.T, a, b api.Factor) bool {
	t.Helper()
	f, err := Two(a, b)
	want, is := twoByWords(a, b)
	if is != (err == api.OK) || !is && err != api.ErrRange || !sameFactor(f, want) {
		t.Errorf("Two(%v, %v): %v, %d, not %v, %v", a, b, f, err, want, is)
	}
	return is
}

// P13.2: factors whose numbers can be told by hand; the document's example.
func TestTwo(t *testing.T) {
	for _, c := range []struct{ a, b, want []float64 }{
		{[]float64{3, 0, 0}, []float64{4, 0, 0}, []float64{5, 0, 0}},
		{[]float64{0, 0, 3}, []float64{0, 0, 4}, []float64{0, 0, 5}},
		{[]float64{3, 1, 0}, []float64{4, 2, 0}, []float64{5, 2.2, 0.4}},
		// What is left of 2 is 0.4, and goes into the last row ahead of b's own last line.
		{[]float64{3, 1, 0.3}, []float64{4, 2, 1.2}, []float64{5, 2.2, 1.3}},
		{[]float64{3, -1, 0}, []float64{4, -2, 0}, []float64{5, -2.2, 0.4}},
		{[]float64{5, 0, 1, 0, 0, 0}, []float64{0, 0, 0, 2, 3, 4}, []float64{5, 0, 1, 2, 3, 4}},
		{[]float64{0, 0, 0, 2, 3, 4}, []float64{5, 0, 1, 0, 0, 0}, []float64{5, 0, 1, 2, 3, 4}},
		{[]float64{3, 0, 0, 5, 0, 8}, []float64{4, 0, 0, 12, 0, 15}, []float64{5, 0, 0, 13, 0, 17}},
	} {
		cols := len(c.a) / 3
		a, b := api.Factor{Cols: cols, Tri: c.a, Rows: 3, Turns: 9}, api.Factor{Cols: cols, Tri: c.b, Rows: 5, Turns: 15}
		f, err := Two(a, b)
		if err != api.OK || f.Cols != cols || f.Rows != 8 || f.Turns != 15+size(cols) || !nearly(f.Tri, c.want) {
			t.Errorf("Two(%v, %v): %v, %d, not %v", a, b, f, err, c.want)
		}
	}
	a, b := counted(filled(2), 3, 9), counted(filled(2), 5, 15)
	if f, err := Two(a, b); err != api.OK || f.Rows != 8 || f.Turns != 21 {
		t.Errorf("Two(%v, %v): %v, %d", a, b, f, err)
	}
}

func nearly(a, b []float64) bool {
	return slices.EqualFunc(a, b, func(a, b float64) bool { return math.Abs(a-b) <= 1e-14 })
}

// P13.2: each line, from its place on, bit by bit.
func TestTwoGoesThroughLines(t *testing.T) {
	seed := drawer(1)
	good, bad := 0, 0
	for cols := 1; cols <= 6; cols++ {
		for _, width := range []int{0, 1, 20, 200, 405, 419} {
			for range 100 {
				a, b := seed.factor(cols, width), seed.factor(cols, width)
				if width == 1 {
					// Numbers so great that both together are too great, here and there.
					a.Tri, b.Tri = scaled(a.Tri, 418), scaled(b.Tri, 418)
				}
				a.Rows, b.Rows = int(seed.next()%101), int(seed.next()%100)
				a.Turns, b.Turns = int(seed.next()%4000), int(seed.next()%4000)
				if holdTwo(t, a, b) {
					good++
				} else {
					bad++
				}
				// Numbers so small that they have few bits.
				a.Tri, b.Tri = scaled(a.Tri, -1050), scaled(b.Tri, -1050)
				holdTwo(t, a, b)
			}
		}
		for i := range cols + 1 {
			for j := i; j <= cols; j++ {
				for _, x := range []float64{0, minusZero, least, 1, greatest / 16} {
					b := changed(empty(cols), i, j, math.Abs(x))
					if !holdTwo(t, filled(cols), b) || !holdTwo(t, b, filled(cols)) || !holdTwo(t, filled(cols), changed(filled(cols), i, j, math.Abs(x))) {
						t.Errorf("Two of %v is refused", b)
					}
				}
			}
		}
	}
	if good < 2000 || bad < 50 {
		t.Errorf("%d were merged, %d not", good, bad)
	}
}

// P13.2: how many rows and rotations there are, whichever has more, and at the edges of both.
func TestTwoCounts(t *testing.T) {
	for cols := 1; cols <= 6; cols++ {
		last := 4096 - size(cols)
		for _, c := range []struct {
			rows, others, turns, more int
			want                      api.Errno
		}{
			{0, 0, 0, 0, api.OK}, {1, 2, 3, 4, api.OK}, {2, 1, 4, 3, api.OK},
			{100, 100, 0, 0, api.OK}, {200, 0, 0, 0, api.OK}, {0, 200, 0, 0, api.OK}, {199, 1, 0, 0, api.OK},
			{100, 101, 0, 0, api.ErrFull}, {200, 1, 0, 0, api.ErrFull}, {1, 200, 0, 0, api.ErrFull}, {200, 200, 0, 0, api.ErrFull},
			{0, 0, last, 0, api.OK}, {0, 0, 0, last, api.OK}, {0, 0, last, last, api.OK}, {0, 0, last, last - 1, api.OK},
			{0, 0, last + 1, 0, api.ErrFull}, {0, 0, 0, last + 1, api.ErrFull}, {0, 0, 4096, 4096, api.ErrFull}, {0, 0, 4096, 0, api.ErrFull},
			{100, 100, last, last, api.OK}, {200, 0, 0, last, api.OK}, {200, 1, last, 0, api.ErrFull}, {200, 0, last + 1, 0, api.ErrFull},
		} {
			a, b := counted(filled(cols), c.rows, c.turns), counted(filled(cols), c.others, c.more)
			f, err := Two(a, b)
			if err != c.want || err != api.OK && !isZero(f) {
				t.Errorf("Two(%v, %v): %v, %d, not %d", a, b, f, err, c.want)
			}
			if err == api.OK && (f.Rows != c.rows+c.others || f.Turns != max(c.turns, c.more)+size(cols)) {
				t.Errorf("Two(%v, %v): %v", a, b, f)
			}
		}
	}
}

func refusesTwo(t *testing.T, a, b api.Factor, want api.Errno) {
	t.Helper()
	if f, err := Two(a, b); err != want || !isZero(f) {
		t.Errorf("Two(%v, %v): %v, %d, not %d", a, b, f, err, want)
	}
}

// P13.2: each error, ahead of all that are named later.
func TestTwoRefuses(t *testing.T) {
	for _, f := range wrong() {
		refusesTwo(t, f, f, api.ErrArg)
		for cols := 1; cols <= 6; cols++ {
			for _, g := range []api.Factor{empty(cols), filled(cols), counted(filled(cols), 200, 4096), changed(filled(cols), 0, 0, greatest)} {
				refusesTwo(t, f, g, api.ErrArg)
				refusesTwo(t, g, f, api.ErrArg)
			}
		}
	}
	for cols := 1; cols <= 6; cols++ {
		full := counted(changed(filled(cols), 0, 0, greatest), 200, 4096)
		for other := 1; other <= 6; other++ {
			if other == cols {
				continue
			}
			for _, f := range []api.Factor{empty(other), filled(other), counted(changed(filled(other), 0, 0, greatest), 200, 4096)} {
				refusesTwo(t, full, f, api.ErrSize)
				refusesTwo(t, empty(cols), f, api.ErrSize)
				refusesTwo(t, f, filled(cols), api.ErrSize)
			}
		}
		large := changed(filled(cols), 0, 0, greatest)
		refusesTwo(t, full, full, api.ErrFull)
		refusesTwo(t, counted(large, 200, 0), large, api.ErrFull)
		refusesTwo(t, large, counted(large, 200, 0), api.ErrFull)
		refusesTwo(t, counted(large, 0, 4096), large, api.ErrFull)
		refusesTwo(t, large, counted(large, 0, 4096), api.ErrFull)
		refusesTwo(t, large, large, api.ErrRange)
	}
}

// P13.2: what comes is too great, at each place; at its edge it is not.
func TestTwoAtTheGreatest(t *testing.T) {
	for cols := 1; cols <= 6; cols++ {
		for i := range cols + 1 {
			f := changed(empty(cols), i, i, greatest)
			refusesTwo(t, f, f, api.ErrRange)
			refusesTwo(t, f, changed(empty(cols), i, i, math.Ldexp(1, 395)), api.ErrRange)
			refusesTwo(t, changed(empty(cols), i, i, math.Ldexp(1, 395)), f, api.ErrRange)
			// The greatest and so little more are still the greatest, rounded.
			for _, x := range []float64{0, least, 1, math.Ldexp(1, 393)} {
				g := changed(empty(cols), i, i, x)
				for _, pair := range [][2]api.Factor{{f, g}, {g, f}} {
					h, err := Two(pair[0], pair[1])
					if err != api.OK || !slices.Equal(h.Tri, f.Tri) {
						t.Errorf("Two(%v, %v): %v, %d", pair[0], pair[1], h, err)
					}
				}
			}
			for j := i + 1; j <= cols; j++ {
				f := changed(changed(empty(cols), i, i, 1), i, j, greatest)
				refusesTwo(t, f, f, api.ErrRange)
				refusesTwo(t, f, changed(f, i, j, -greatest), api.ErrRange)
				if !holdTwo(t, f, changed(f, i, j, greatest/4)) {
					t.Errorf("Two(%v, ..) is refused", f)
				}
			}
		}
	}
}

// oneByOne says P13.3 over again, by Two.
func oneByOne(l []api.Factor) (api.Factor, api.Errno) {
	f := l[0]
	for n := 1; n < len(l); n++ {
		g, err := Two(f, l[n])
		if err != api.OK {
			return api.Factor{}, err
		}
		f = g
	}
	return f, api.OK
}

func holdAll(t *testing.T, l []api.Factor, want api.Errno) {
	t.Helper()
	f, err := All(l)
	g, _ := oneByOne(l)
	if err != want || !sameFactor(f, g) {
		t.Errorf("All(%v): %v, %d, not %v, %d", l, f, err, g, want)
	}
}

func (d *drawer) factors(cols, n, width int) []api.Factor {
	l := make([]api.Factor, n)
	for i := range l {
		l[i] = counted(d.factor(cols, width), i+1, 7*i)
	}
	return l
}

// P13.3
func TestAll(t *testing.T) {
	seed := drawer(2)
	for cols := 1; cols <= 6; cols++ {
		for n := 1; n <= 12; n++ {
			l := seed.factors(cols, n, 30)
			holdAll(t, l, api.OK)
			if f, _ := All(l); f.Rows != n*(n+1)/2 {
				t.Errorf("All(%v): %v", l, f)
			}
		}
		for _, f := range []api.Factor{empty(cols), filled(cols), counted(filled(cols), 200, 4096), changed(filled(cols), 0, 0, greatest)} {
			g, err := All([]api.Factor{f})
			if err != api.OK || !sameFactor(g, f) {
				t.Errorf("All of %v: %v, %d", f, g, err)
			}
		}
	}
}

func refusesAll(t *testing.T, l []api.Factor, want api.Errno) {
	t.Helper()
	if f, err := All(l); err != want || !isZero(f) {
		t.Errorf("All(%v): %v, %d, not %d", l, f, err, want)
	}
}

// P13.3: no factor, a first one that may not be, and the first error of a Two, wherever it is.
func TestAllRefuses(t *testing.T) {
	refusesAll(t, nil, api.ErrNone)
	refusesAll(t, []api.Factor{}, api.ErrNone)
	for _, f := range wrong() {
		refusesAll(t, []api.Factor{f}, api.ErrArg)
		refusesAll(t, []api.Factor{f, f}, api.ErrArg)
		refusesAll(t, []api.Factor{f, filled(2), filled(3)}, api.ErrArg)
		refusesAll(t, []api.Factor{filled(2), f, filled(3)}, api.ErrArg)
		refusesAll(t, []api.Factor{filled(2), filled(3), f}, api.ErrSize)
	}
	seed := drawer(3)
	for cols := 1; cols <= 6; cols++ {
		large := changed(filled(cols), 0, 0, greatest)
		for at := range 5 {
			for _, c := range []struct {
				f   api.Factor
				err api.Errno
			}{{api.Factor{}, api.ErrArg}, {empty(cols%6 + 1), api.ErrSize}, {counted(filled(cols), 200, 0), api.ErrFull}, {counted(filled(cols), 0, 4096), api.ErrFull}, {large, api.ErrRange}} {
				l := seed.factors(cols, 6, 2)
				l[0] = changed(l[0], 0, 0, greatest/2)
				l[at+1] = c.f
				holdAll(t, l, c.err)
				// Behind the first error, others are not looked at.
				l = append(l[:at+2], api.Factor{}, filled(cols%6+1))
				holdAll(t, l, c.err)
			}
		}
		// So many that there are too many rotations, or rows.
		few := slices.Repeat([]api.Factor{counted(filled(cols), 0, 4096-5*size(cols))}, 6)
		holdAll(t, few, api.OK)
		holdAll(t, append(few, few[0]), api.ErrFull)
		few = slices.Repeat([]api.Factor{counted(filled(cols), 40, 0)}, 5)
		holdAll(t, few, api.OK)
		holdAll(t, append(few, empty(cols)), api.OK)
		holdAll(t, append(few, counted(empty(cols), 1, 0)), api.ErrFull)
	}
}

// together is the Gram lists of all factors of l, together.
func together(l ...api.Factor) []api.Dyad {
	sum := gram.Zero(l[0].Cols)
	for _, f := range l {
		list, _ := gram.Factor(f)
		sum, _ = gram.Add(sum, list)
	}
	return sum
}

// P13.4: the Gram list of two that were merged is near to both, and so is that of both the other way around.
func TestTwoIsNear(t *testing.T) {
	seed := drawer(4)
	for cols := 1; cols <= 6; cols++ {
		for _, width := range []int{0, 1, 5, 50, 399} {
			for n := range 20 {
				a, b := seed.factor(cols, width), seed.factor(cols, width)
				if n%4 == 0 {
					a.Tri, b.Tri = scaled(a.Tri, -600), scaled(b.Tri, -600)
				}
				f, err := Two(a, b)
				g, other := Two(b, a)
				want := together(a, b)
				if at, are := near.Check(cols, want, want, together(f), Cost(cols)); err != api.OK || !are {
					t.Errorf("Two(%v, %v): %v, %d: not near at %d", a, b, f, err, at)
				}
				if at, are := near.Check(cols, together(g), want, together(f), 2*Cost(cols)); other != api.OK || !are {
					t.Errorf("Two(%v, %v): %v, but %v, %d the other way around: not near at %d", a, b, f, g, other, at)
				}
			}
		}
	}
}

// P13.4: a new factor changes no number.
func TestTwoWithANewFactor(t *testing.T) {
	seed := drawer(5)
	for cols := 1; cols <= 6; cols++ {
		fresh := empty(cols)
		for _, width := range []int{0, 3, 100, 419} {
			for n := range 30 {
				f := seed.factor(cols, width)
				g, err := Two(f, fresh)
				if err != api.OK || !slices.Equal(g.Tri, f.Tri) || g.Rows != f.Rows || g.Turns != f.Turns+Cost(cols) {
					t.Errorf("Two(%v, 0): %v, %d", f, g, err)
				}
				// What rows come to, with fewer rows than columns, or more.
				f, _, _ = absorb.All(fresh, seed.rows(cols, n%10, min(width, 399)))
				for _, pair := range [][2]api.Factor{{f, fresh}, {fresh, f}} {
					g, err := Two(pair[0], pair[1])
					if err != api.OK || !slices.Equal(g.Tri, f.Tri) || g.Rows != f.Rows || g.Turns != f.Turns+Cost(cols) {
						t.Errorf("Two(%v, %v): %v, %d", pair[0], pair[1], g, err)
					}
				}
			}
		}
		if g, err := Two(fresh, fresh); err != api.OK || !slices.Equal(g.Tri, fresh.Tri) || g.Rows != 0 || g.Turns != Cost(cols) {
			t.Errorf("Two(0, 0): %v, %d", g, err)
		}
	}
}

// P13.4: rows that are absorbed in two factors, which are merged, come near to what all rows come to.
func TestRowsInTwoFactors(t *testing.T) {
	seed := drawer(6)
	for cols := 1; cols <= 6; cols++ {
		for _, width := range []int{0, 3, 40, 399} {
			l := seed.rows(cols, 20, width)
			all, _, _ := absorb.All(empty(cols), l)
			want, _ := gram.Rows(cols, l)
			for cut := range len(l) + 1 {
				a, _, _ := absorb.All(empty(cols), l[:cut])
				b, _, _ := absorb.All(empty(cols), l[cut:])
				f, err := Two(a, b)
				if at, are := near.Check(cols, want, want, together(f), f.Turns); err != api.OK || f.Rows != 20 || !are {
					t.Errorf("Two(%v, %v): %v, %d: not near at %d", a, b, f, err, at)
				}
				if at, are := near.Check(cols, together(all), want, together(f), f.Turns+all.Turns); !are {
					t.Errorf("Two(%v, %v): %v: not near to %v at %d", a, b, f, all, at)
				}
			}
		}
	}
}

// R5: what is handed in is not changed, and no answer shares its memory.
func TestAnswersAreNewMemory(t *testing.T) {
	for cols := 1; cols <= 6; cols++ {
		a, b := filled(cols), changed(filled(cols), 0, 0, 7)
		l := []api.Factor{a, b, a}
		first, second := copied(a), copied(b)
		large := changed(a, cols, cols, greatest)
		ask := []func() api.Factor{
			func() api.Factor { f, _ := Two(a, b); return f },
			func() api.Factor { f, _ := Two(b, a); return f },
			func() api.Factor { f, _ := Two(a, a); return f },
			func() api.Factor { f, _ := Two(a, empty(cols)); return f },
			func() api.Factor { f, _ := All(l); return f },
			func() api.Factor { f, _ := All(l[:2]); return f },
			func() api.Factor { f, _ := All(l[:1]); return f },
			func() api.Factor { Two(a, large); All([]api.Factor{a, large, large}); return empty(cols) },
		}
		for i, call := range ask {
			f := call()
			if len(f.Tri) != size(cols) {
				t.Fatalf("call %d: %v", i, f)
			}
			clear(f.Tri)
			if !sameFactor(a, first) || !sameFactor(b, second) || !sameFactor(l[0], first) || !sameFactor(l[1], second) || !sameFactor(l[2], first) {
				t.Fatalf("call %d: what was handed in is changed: %v, %v", i, a, b)
			}
		}
	}
}
