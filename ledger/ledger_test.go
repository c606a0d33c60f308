package ledger

import (
	"math"
	"math/big"
	"slices"
	"testing"

	"levelling/absorb"
	"levelling/api"
	"levelling/dyad"
	"levelling/fade"
	"levelling/gram"
	"levelling/merge"
	"levelling/near"
	"levelling/shed"
	"levelling/tri"
)

var (
	minusZero = math.Copysign(0, -1)
	infinity  = math.Inf(1)
	// Rows have no numbers but those of these sizes, and 0.
	lowest  = math.Ldexp(1, -400)
	highest = math.Ldexp(1, 400)
	tooLow  = math.Nextafter(lowest, 0)
	tooHigh = math.Nextafter(highest, infinity)
	// Nothing is faded by less than this.
	leastBeta = math.Ldexp(1, -20)
	// A triangle's entries end here.
	greatest = math.Ldexp(1, 420)
)

// outside has numbers of columns of which there is no book.
var outside = []int{0, -1, -2, -3, 7, 8, 100, math.MaxInt, math.MaxInt - 1, math.MinInt, math.MinInt + 1}

// notIn has floats that no row may have.
var notIn = []float64{tooLow, -tooLow, tooHigh, -tooHigh, math.SmallestNonzeroFloat64, math.MaxFloat64, infinity, -infinity, math.NaN()}

// wrongDyads has dyads that may not be.
func wrongDyads() []api.Dyad {
	return []api.Dyad{{Neg: true}, {Exp: 1}, {N: api.Nat{}, Exp: -3}, {N: api.Nat{2}}, {N: api.Nat{0, 1}}, {N: api.Nat{0}}, {N: api.Nat{1, 0}}, {N: api.Nat{1}, Exp: 20001}, {N: api.Nat{1}, Exp: -20001}, {N: api.Nat{3}, Exp: math.MaxInt}, {N: api.Nat{3}, Exp: math.MinInt}}
}

func size(cols int) int { return (cols + 1) * (cols + 2) / 2 }

func place(cols, i, j int) int {
	at := 0
	for row := range i {
		at += cols + 1 - row
	}
	return at + j - i
}

func same(a, b []api.Dyad) bool {
	return slices.EqualFunc(a, b, func(a, b api.Dyad) bool {
		return a.Neg == b.Neg && a.Exp == b.Exp && slices.Equal(a.N, b.N)
	})
}

func sameBook(a, b api.Book) bool {
	return a.Cols == b.Cols && a.Rows == b.Rows && a.Turns == b.Turns && same(a.Net, b.Net) && same(a.In, b.In)
}

func isZero(b api.Book) bool { return sameBook(b, api.Book{}) }

// of is the dyads of floats.
func of(l ...float64) []api.Dyad {
	out := []api.Dyad{}
	for _, x := range l {
		d, is := dyad.From(x)
		if !is {
			panic("no number")
		}
		out = append(out, d)
	}
	return out
}

// digits is l, whose dyads' digits are lists of their own.
func digits(l []api.Dyad) []api.Dyad {
	l = slices.Clone(l)
	for i := range l {
		l[i].N = slices.Clone(l[i].N)
	}
	return l
}

// kept is b, of memory of its own.
func kept(b api.Book) api.Book {
	b.Net, b.In = digits(b.Net), digits(b.In)
	return b
}

// counted is b with other numbers of rows and rotations.
func counted(b api.Book, rows, turns int) api.Book {
	b = kept(b)
	b.Rows, b.Turns = rows, turns
	return b
}

// scaled is n times 2 to the power of exp.
func scaled(n *big.Int, exp int) *big.Rat {
	if exp < 0 {
		return new(big.Rat).SetFrac(n, new(big.Int).Lsh(big.NewInt(1), uint(-exp)))
	}
	return new(big.Rat).SetInt(new(big.Int).Lsh(n, uint(exp)))
}

// ratio is d, by the library's numbers.
func ratio(d api.Dyad) *big.Rat {
	n := new(big.Int)
	for _, x := range slices.Backward(d.N) {
		n.Or(n.Lsh(n, 32), big.NewInt(int64(x)))
	}
	if d.Neg {
		n.Neg(n)
	}
	return scaled(n, d.Exp)
}

// dyadOf is r, which is a whole number times a power of two, as a dyad.
func dyadOf(r *big.Rat) api.Dyad {
	if r.Sign() == 0 {
		return api.Dyad{}
	}
	n := new(big.Int).Abs(r.Num())
	zeros := n.TrailingZeroBits()
	n.Rsh(n, zeros)
	d := api.Dyad{Neg: r.Sign() < 0, Exp: int(zeros) - (r.Denom().BitLen() - 1)}
	for base := big.NewInt(1 << 32); n.Sign() > 0; {
		digit := new(big.Int)
		n.DivMod(n, base, digit)
		d.N = append(d.N, uint32(digit.Uint64()))
	}
	return d
}

func number(x float64) *big.Rat { return new(big.Rat).SetFloat64(x) }

func product(l ...*big.Rat) *big.Rat {
	p := big.NewRat(1, 1)
	for _, r := range l {
		p.Mul(p, r)
	}
	return p
}

// each is l, each entry of which is what change tells of it and of its two columns.
func each(cols int, l []api.Dyad, change func(r *big.Rat, i, j int) *big.Rat) []api.Dyad {
	out := []api.Dyad{}
	for i := 0; i <= cols; i++ {
		for j := i; j <= cols; j++ {
			out = append(out, dyadOf(change(ratio(l[len(out)]), i, j)))
		}
	}
	return out
}

// withRow is l, to which the products of r are added so many times.
func withRow(l []api.Dyad, r api.Row, times int64) []api.Dyad {
	entries := append(slices.Clone(r.X), r.Y)
	return each(len(r.X), l, func(sum *big.Rat, i, j int) *big.Rat {
		return sum.Add(sum, product(big.NewRat(times, 1), number(entries[i]), number(entries[j])))
	})
}

// inByWords, and so on: what the chapter says, over again, by the library's numbers, where nothing is refused.
func inByWords(b api.Book, r api.Row) api.Book {
	return api.Book{Cols: b.Cols, Net: withRow(b.Net, r, 1), In: withRow(b.In, r, 1), Rows: b.Rows + 1, Turns: b.Turns + b.Cols + 1}
}

func outByWords(b api.Book, r api.Row) api.Book {
	return api.Book{Cols: b.Cols, Net: withRow(b.Net, r, -1), In: b.In, Rows: b.Rows - 1, Turns: b.Turns + b.Cols + 1}
}

func fadeByWords(b api.Book, beta float64) api.Book {
	less := func(r *big.Rat, _, _ int) *big.Rat { return product(r, number(beta), number(beta)) }
	return api.Book{Cols: b.Cols, Net: each(b.Cols, b.Net, less), In: each(b.Cols, b.In, less), Rows: b.Rows, Turns: b.Turns + 1}
}

func joinByWords(a, b api.Book) api.Book {
	sum := func(l, m []api.Dyad) []api.Dyad {
		return each(a.Cols, l, func(r *big.Rat, i, j int) *big.Rat { return r.Add(r, ratio(m[place(a.Cols, i, j)])) })
	}
	return api.Book{Cols: a.Cols, Net: sum(a.Net, b.Net), In: sum(a.In, b.In), Rows: a.Rows + b.Rows, Turns: max(a.Turns, b.Turns) + size(a.Cols)}
}

func ridgeByWords(b api.Book, mu float64) api.Book {
	square := func(r *big.Rat, i, j int) *big.Rat {
		if i == j && i < b.Cols {
			r.Add(r, product(number(mu), number(mu)))
		}
		return r
	}
	return api.Book{Cols: b.Cols, Net: each(b.Cols, b.Net, square), In: each(b.Cols, b.In, square), Rows: b.Rows, Turns: b.Turns + b.Cols*(b.Cols+1)}
}

// drawer hands out numbers, the same ones again for each start.
type drawer uint64

func (d *drawer) next() uint64 {
	*d ^= *d << 13
	*d ^= *d >> 7
	*d ^= *d << 17
	return uint64(*d)
}

func (d *drawer) below(n int) int { return int(d.next() % uint64(n)) }

// float has any fraction and sign; its exponent is at most width away from 0. Some are zeros.
func (d *drawer) float(width int) float64 {
	x := math.Ldexp(1+float64(d.next()>>12)/(1<<52), d.below(2*width+1)-width)
	switch d.below(12) {
	case 0:
		return 0
	case 1:
		return minusZero
	case 2, 3, 4, 5, 6:
		return -x
	}
	return x
}

func (d *drawer) row(cols, width int) api.Row {
	r := api.Row{Y: d.float(width)}
	for range cols {
		r.X = append(r.X, d.float(width))
	}
	return r
}

// beta is 2^-20 to 1; now and then a power of two.
func (d *drawer) beta() float64 {
	if d.below(2) == 0 {
		return math.Ldexp(1, -d.below(21))
	}
	return math.Ldexp(1+float64(d.next()>>12)/(1<<52), -1-d.below(20))
}

// dyads has up to three digits each, no two alike, and exponents that are not far from 0.
func (d *drawer) dyads(cols int) []api.Dyad {
	l := make([]api.Dyad, size(cols))
	for i := range l {
		if d.below(6) == 0 {
			continue
		}
		n := api.Nat{uint32(d.next()) | 1}
		for range d.below(3) {
			n = append(n, uint32(d.next())|1)
		}
		l[i] = api.Dyad{Neg: d.below(2) == 0, N: n, Exp: d.below(81) - 40}
	}
	return l
}

// book has any dyads, whose lists are unlike, and room for some rows and rotations.
func (d *drawer) book(cols int) api.Book {
	return api.Book{Cols: cols, Net: d.dyads(cols), In: d.dyads(cols), Rows: 1 + d.below(90), Turns: d.below(4000)}
}

// wrong has books that may not be.
func wrong() []api.Book {
	seed := drawer(77)
	l := []api.Book{{}, {Cols: 1}, {Net: make([]api.Dyad, 3), In: make([]api.Dyad, 3)}, {Cols: 7, Net: make([]api.Dyad, 36), In: make([]api.Dyad, 36)}, {Cols: -1, Net: make([]api.Dyad, 1), In: make([]api.Dyad, 1)}}
	for _, cols := range outside {
		l = append(l, api.Book{Cols: cols}, api.Book{Cols: cols, Net: seed.dyads(2), In: seed.dyads(2), Rows: 1})
	}
	for cols := 1; cols <= 6; cols++ {
		b := seed.book(cols)
		l = append(l, counted(b, -1, 0), counted(b, 201, 0), counted(b, 1, -1), counted(b, 1, 4097), counted(b, math.MaxInt, 0), counted(b, math.MinInt, 0), counted(b, 1, math.MaxInt), counted(b, 1, math.MinInt))
		other := cols%6 + 1
		for _, list := range [][]api.Dyad{nil, b.Net[1:], append(digits(b.Net), api.Dyad{}), seed.dyads(other)} {
			l = append(l, api.Book{Cols: cols, Net: list, In: b.In, Rows: 1}, api.Book{Cols: cols, Net: b.Net, In: list, Rows: 1}, api.Book{Cols: cols, Net: list, In: list, Rows: 1})
		}
		for i, d := range wrongDyads() {
			c, e := kept(b), kept(b)
			c.Net[i%size(cols)] = d
			e.In[(i+1)%size(cols)] = d
			l = append(l, c, e)
		}
	}
	return l
}

// P19.1: the edges of what may be.
func TestCheck(t *testing.T) {
	seed := drawer(1)
	for cols := 1; cols <= 6; cols++ {
		for _, n := range [][2]int{{0, 0}, {200, 4096}, {1, 1}, {0, 4096}, {200, 0}} {
			if b := counted(seed.book(cols), n[0], n[1]); !Check(b) {
				t.Errorf("Check(%v): false", b)
			}
		}
		// Which dyads they are is of no moment, as long as each may be.
		b := seed.book(cols)
		b.Net[0], b.In[0] = api.Dyad{Neg: true, N: api.Nat{1}, Exp: 20000}, api.Dyad{Neg: true, N: api.Nat{1}, Exp: -20000}
		if !Check(b) {
			t.Errorf("Check(%v): false", b)
		}
		for at := range size(cols) {
			for _, d := range wrongDyads() {
				b, c := seed.book(cols), seed.book(cols)
				b.Net[at], c.In[at] = d, d
				if Check(b) || Check(c) {
					t.Errorf("Check with %v at %d of %d columns: true", d, at, cols)
				}
			}
		}
	}
	for _, b := range wrong() {
		if Check(b) {
			t.Errorf("Check(%v): true", b)
		}
	}
}

// P19.1
func TestNew(t *testing.T) {
	for cols := 1; cols <= 6; cols++ {
		b, err := New(cols)
		want := api.Book{Cols: cols, Net: make([]api.Dyad, size(cols)), In: make([]api.Dyad, size(cols))}
		if err != api.OK || !sameBook(b, want) || !Check(b) {
			t.Errorf("New(%d): %v, %d", cols, b, err)
		}
	}
	for _, cols := range outside {
		if b, err := New(cols); err != api.ErrArg || !isZero(b) {
			t.Errorf("New(%d): %v, %d", cols, b, err)
		}
	}
}

// P19.1: a factor's book has the products of its lines on both sides, and its counts.
func TestOf(t *testing.T) {
	f := api.Factor{Cols: 2, Tri: []float64{2, -1, 3, 4, 0.5, 1}, Rows: 7, Turns: 30}
	list := of(4, -2, 6, 17, -1, 10.25)
	if b, err := Of(f); err != api.OK || !sameBook(b, api.Book{Cols: 2, Net: list, In: list, Rows: 7, Turns: 30}) {
		t.Errorf("Of(%v): %v, %d", f, b, err)
	}
	seed := drawer(2)
	for cols := 1; cols <= 6; cols++ {
		for _, n := range [][2]int{{0, 0}, {200, 4096}, {0, 4096}, {3, 9}} {
			f := api.Factor{Cols: cols, Rows: n[0], Turns: n[1]}
			for range size(cols) {
				f.Tri = append(f.Tri, seed.float(400))
			}
			want := make([]api.Dyad, size(cols))
			for i := range cols + 1 {
				f.Tri[place(cols, i, i)] = math.Abs(f.Tri[place(cols, i, i)])
			}
			f.Tri[1], f.Tri[0] = -greatest, math.SmallestNonzeroFloat64
			for i := range cols + 1 {
				line := slices.Concat(make([]float64, i), f.Tri[place(cols, i, i):place(cols, i, cols)+1])
				want = withRow(want, api.Row{X: line[:cols], Y: line[cols]}, 1)
			}
			b, err := Of(f)
			if err != api.OK || !sameBook(b, api.Book{Cols: cols, Net: want, In: want, Rows: n[0], Turns: n[1]}) || !Check(b) {
				t.Errorf("Of(%v): %v, %d", f, b, err)
			}
		}
	}
}

// wrongFactors has factors that may not be.
func wrongFactors() []api.Factor {
	l := []api.Factor{{}, {Cols: 1}, {Tri: make([]float64, 3)}, {Cols: 7, Tri: make([]float64, 36)}, {Cols: -1, Tri: make([]float64, 1)}, {Cols: math.MaxInt}, {Cols: math.MinInt}}
	for cols := 1; cols <= 6; cols++ {
		f, _ := tri.New(cols)
		for _, n := range [][2]int{{-1, 0}, {201, 0}, {0, -1}, {0, 4097}, {math.MaxInt, 0}, {0, math.MinInt}} {
			l = append(l, api.Factor{Cols: cols, Tri: f.Tri, Rows: n[0], Turns: n[1]})
		}
		for _, x := range []float64{minusZero, -1, math.Nextafter(greatest, infinity), infinity, math.NaN()} {
			entries := slices.Clone(f.Tri)
			entries[0] = x
			l = append(l, api.Factor{Cols: cols, Tri: entries})
		}
		l = append(l, api.Factor{Cols: cols, Tri: f.Tri[1:]}, api.Factor{Cols: cols, Tri: make([]float64, size(cols)+1)})
	}
	return l
}

// P19.1
func TestOfRefuses(t *testing.T) {
	for _, f := range wrongFactors() {
		if b, err := Of(f); err != api.ErrArg || !isZero(b) {
			t.Errorf("Of(%v): %v, %d", f, b, err)
		}
	}
}

// P19.2, P19.3: the document's example, and numbers by hand.
func TestInAndOut(t *testing.T) {
	b, _ := New(1)
	r, s := api.Row{X: []float64{2}, Y: 3}, api.Row{X: []float64{-1}, Y: 0.5}
	first, err := In(b, r)
	if err != api.OK || !sameBook(first, api.Book{Cols: 1, Net: of(4, 6, 9), In: of(4, 6, 9), Rows: 1, Turns: 2}) {
		t.Errorf("the first row: %v, %d", first, err)
	}
	second, err := In(first, s)
	if err != api.OK || !sameBook(second, api.Book{Cols: 1, Net: of(5, 5.5, 9.25), In: of(5, 5.5, 9.25), Rows: 2, Turns: 4}) {
		t.Errorf("the second row: %v, %d", second, err)
	}
	third, err := Out(second, r)
	if err != api.OK || !sameBook(third, api.Book{Cols: 1, Net: of(1, -0.5, 0.25), In: of(5, 5.5, 9.25), Rows: 1, Turns: 6}) {
		t.Errorf("the first row taken out: %v, %d", third, err)
	}
	// A book does not know which rows there are: one that never came in can be taken out.
	fourth, err := Out(third, r)
	if err != api.OK || !sameBook(fourth, api.Book{Cols: 1, Net: of(-3, -6.5, -8.75), In: of(5, 5.5, 9.25), Rows: 0, Turns: 8}) {
		t.Errorf("it taken out again: %v, %d", fourth, err)
	}
}

// P19.2, P19.3: any rows and books; the greatest and the least numbers; zeros of both signs.
func TestInAndOutByWords(t *testing.T) {
	seed := drawer(3)
	hold := func(b api.Book, r api.Row) {
		t.Helper()
		if c, err := In(b, r); err != api.OK || !sameBook(c, inByWords(b, r)) || !Check(c) {
			t.Errorf("In(%v, %v): %v, %d, not %v", b, r, c, err, inByWords(b, r))
		}
		if c, err := Out(b, r); err != api.OK || !sameBook(c, outByWords(b, r)) || !Check(c) {
			t.Errorf("Out(%v, %v): %v, %d, not %v", b, r, c, err, outByWords(b, r))
		}
	}
	for cols := 1; cols <= 6; cols++ {
		for range 40 {
			hold(seed.book(cols), seed.row(cols, []int{0, 1, 30, 399}[seed.below(4)]))
		}
		for _, x := range []float64{0, minusZero, lowest, -lowest, highest, -highest, math.Nextafter(lowest, 1), math.Nextafter(highest, 0), 0.1} {
			for at := range cols + 1 {
				line := make([]float64, cols+1)
				for i := range line {
					line[i] = seed.float(3)
				}
				line[at] = x
				hold(seed.book(cols), api.Row{X: line[:cols], Y: line[cols]})
			}
		}
		// Edges of what there may be ahead of it.
		hold(counted(seed.book(cols), 199, 4096-cols-1), seed.row(cols, 2))
		hold(counted(seed.book(cols), 1, 0), seed.row(cols, 2))
	}
}

// P19.2: each error is told ahead of those that are named later.
func TestInRefuses(t *testing.T) {
	seed := drawer(4)
	for cols := 1; cols <= 6; cols++ {
		good, r := seed.book(cols), seed.row(cols, 3)
		wide, narrow := seed.row(cols+1, 3), seed.row(cols-1, 3)
		full, tired := counted(good, 200, 0), counted(good, 3, 4096-cols)
		for _, b := range wrong() {
			for _, row := range []api.Row{r, wide, narrow, {}, {X: []float64{infinity}}} {
				hold(t, "In", api.ErrArg)(In(b, row))
			}
		}
		for _, b := range []api.Book{good, full, tired} {
			for _, row := range []api.Row{wide, narrow, {X: slices.Repeat([]float64{math.NaN()}, cols+1)}, {X: nil, Y: infinity}, {X: make([]float64, 1000)}} {
				hold(t, "In", api.ErrSize)(In(b, row))
			}
			for _, x := range notIn {
				hold(t, "In", api.ErrRange)(In(b, api.Row{X: r.X, Y: x}))
				for at := range cols {
					l := slices.Clone(r.X)
					l[at] = x
					hold(t, "In", api.ErrRange)(In(b, api.Row{X: l, Y: r.Y}))
				}
			}
		}
		for _, b := range []api.Book{full, tired, counted(good, 200, 4096), counted(good, 0, 4096)} {
			hold(t, "In", api.ErrFull)(In(b, r))
		}
		if c, err := In(counted(good, 0, 0), r); err != api.OK || c.Rows != 1 || c.Turns != cols+1 {
			t.Errorf("In of the first row: %v, %d", c, err)
		}
		if c, err := In(counted(good, 199, 4095-cols), r); err != api.OK || c.Rows != 200 || c.Turns != 4096 {
			t.Errorf("In of the last row: %v, %d", c, err)
		}
	}
}

// hold holds an answer against an error, beside which there is no book.
func hold(t *testing.T, call string, want api.Errno) func(api.Book, api.Errno) {
	t.Helper()
	return func(b api.Book, err api.Errno) {
		t.Helper()
		if err != want || !isZero(b) {
			t.Errorf("%s: %v, %d, not %d", call, b, err, want)
		}
	}
}

// P19.3: each error is told ahead of those that are named later.
func TestOutRefuses(t *testing.T) {
	seed := drawer(5)
	for cols := 1; cols <= 6; cols++ {
		good, r := seed.book(cols), seed.row(cols, 3)
		few, tired := counted(good, 0, 4096), counted(good, 3, 4096-cols)
		for _, b := range wrong() {
			for _, row := range []api.Row{r, seed.row(cols+1, 3), {}} {
				hold(t, "Out", api.ErrArg)(Out(b, row))
			}
		}
		for _, b := range []api.Book{good, few, tired} {
			for _, row := range []api.Row{seed.row(cols+1, 3), seed.row(cols-1, 3), {X: slices.Repeat([]float64{math.NaN()}, cols+1)}} {
				hold(t, "Out", api.ErrSize)(Out(b, row))
			}
			for _, x := range notIn {
				hold(t, "Out", api.ErrRange)(Out(b, api.Row{X: r.X, Y: x}))
				for at := range cols {
					l := slices.Clone(r.X)
					l[at] = x
					hold(t, "Out", api.ErrRange)(Out(b, api.Row{X: l, Y: r.Y}))
				}
			}
		}
		for _, turns := range []int{0, 4095 - cols, 4096 - cols, 4096} {
			hold(t, "Out", api.ErrFew)(Out(counted(good, 0, turns), r))
		}
		for _, turns := range []int{4096 - cols, 4096} {
			hold(t, "Out", api.ErrFull)(Out(counted(good, 200, turns), r))
		}
		// A book that has no room for a row has some for one fewer.
		if c, err := Out(counted(good, 200, 4095-cols), r); err != api.OK || c.Rows != 199 || c.Turns != 4096 {
			t.Errorf("Out of a full book: %v, %d", c, err)
		}
	}
}

// P19.4: numbers by hand; any books; the edges of what is faded by, and of the rotations.
func TestFade(t *testing.T) {
	b := api.Book{Cols: 1, Net: of(1, -0.5, 0.25), In: of(5, 5.5, 9.25), Rows: 1, Turns: 6}
	if c, err := Fade(b, 0.5); err != api.OK || !sameBook(c, api.Book{Cols: 1, Net: of(0.25, -0.125, 0.0625), In: of(1.25, 1.375, 2.3125), Rows: 1, Turns: 7}) {
		t.Errorf("Fade(%v, 0.5): %v, %d", b, c, err)
	}
	seed := drawer(6)
	for cols := 1; cols <= 6; cols++ {
		betas := []float64{1, math.Nextafter(1, 0), leastBeta, math.Nextafter(leastBeta, 1), 0.1}
		for range 20 {
			betas = append(betas, seed.beta())
		}
		for _, beta := range betas {
			b := seed.book(cols)
			if c, err := Fade(b, beta); err != api.OK || !sameBook(c, fadeByWords(b, beta)) || !Check(c) {
				t.Errorf("Fade(%v, %v): %v, %d", b, beta, c, err)
			}
		}
		for _, b := range []api.Book{counted(seed.book(cols), 0, 4095), counted(seed.book(cols), 200, 0)} {
			if c, err := Fade(b, 0.75); err != api.OK || !sameBook(c, fadeByWords(b, 0.75)) {
				t.Errorf("Fade(%v, 0.75): %v, %d", b, c, err)
			}
		}
	}
}

// P19.4: each error is told ahead of those that are named later.
func TestFadeRefuses(t *testing.T) {
	never := []float64{0, minusZero, -0.5, -1, math.Nextafter(leastBeta, 0), math.Nextafter(1, 2), 2, infinity, -infinity, math.NaN()}
	for _, b := range wrong() {
		for _, beta := range append(never, 0.5) {
			hold(t, "Fade", api.ErrArg)(Fade(b, beta))
		}
	}
	seed := drawer(7)
	for cols := 1; cols <= 6; cols++ {
		b := seed.book(cols)
		for _, beta := range never {
			hold(t, "Fade", api.ErrFade)(Fade(b, beta))
			hold(t, "Fade", api.ErrFade)(Fade(counted(b, 200, 4096), beta))
		}
		hold(t, "Fade", api.ErrFull)(Fade(counted(b, 0, 4096), 0.5))
		hold(t, "Fade", api.ErrFull)(Fade(counted(b, 0, 4096), 1))
	}
}

// P19.4: numbers by hand; any two books; the edges of the rows and rotations.
func TestJoin(t *testing.T) {
	a := api.Book{Cols: 1, Net: of(5, 5.5, 9.25), In: of(5, 5.5, 9.25), Rows: 2, Turns: 4}
	b := api.Book{Cols: 1, Net: of(1, -0.5, 0.25), In: of(50, 55, 92), Rows: 1, Turns: 6}
	if c, err := Join(a, b); err != api.OK || !sameBook(c, api.Book{Cols: 1, Net: of(6, 5, 9.5), In: of(55, 60.5, 101.25), Rows: 3, Turns: 9}) {
		t.Errorf("Join(%v, %v): %v, %d", a, b, c, err)
	}
	seed := drawer(8)
	for cols := 1; cols <= 6; cols++ {
		for range 30 {
			a, b := seed.book(cols), seed.book(cols)
			if c, err := Join(a, b); err != api.OK || !sameBook(c, joinByWords(a, b)) || !Check(c) {
				t.Errorf("Join(%v, %v): %v, %d", a, b, c, err)
			}
		}
		for _, n := range [][4]int{{200, 0, 0, 0}, {0, 200, 0, 0}, {100, 100, 9, 8}, {1, 2, 4096 - size(cols), 4096 - size(cols)}, {0, 0, 0, 4096 - size(cols)}} {
			a, b := counted(seed.book(cols), n[0], n[2]), counted(seed.book(cols), n[1], n[3])
			for _, c := range [][2]api.Book{{a, b}, {b, a}} {
				if sum, err := Join(c[0], c[1]); err != api.OK || !sameBook(sum, joinByWords(a, b)) || !Check(sum) {
					t.Errorf("Join(%v, %v): %v, %d", c[0], c[1], sum, err)
				}
			}
		}
		// A book with itself is all of it twice.
		if c, err := Join(a, a); err != api.OK || !sameBook(c, joinByWords(a, a)) {
			t.Errorf("Join of %v with itself: %v, %d", a, c, err)
		}
	}
}

// P19.4: each error is told ahead of those that are named later.
func TestJoinRefuses(t *testing.T) {
	seed := drawer(9)
	good := seed.book(2)
	for _, b := range wrong() {
		for _, c := range []api.Book{good, seed.book(5), counted(good, 200, 4096), b} {
			hold(t, "Join", api.ErrArg)(Join(b, c))
			hold(t, "Join", api.ErrArg)(Join(c, b))
		}
	}
	for cols := 1; cols <= 6; cols++ {
		for other := 1; other <= 6; other++ {
			if other != cols {
				hold(t, "Join", api.ErrSize)(Join(seed.book(cols), seed.book(other)))
				hold(t, "Join", api.ErrSize)(Join(counted(seed.book(cols), 200, 4096), counted(seed.book(other), 200, 4096)))
			}
		}
		tired := 4097 - size(cols)
		for _, n := range [][4]int{{200, 1, 0, 0}, {101, 100, 0, 0}, {200, 200, 4096, 4096}, {0, 0, tired, 0}, {1, 1, tired, tired}, {0, 0, 4096, 0}} {
			a, b := counted(seed.book(cols), n[0], n[2]), counted(seed.book(cols), n[1], n[3])
			hold(t, "Join", api.ErrFull)(Join(a, b))
			hold(t, "Join", api.ErrFull)(Join(b, a))
		}
	}
}

// P19.5: numbers by hand; any books; the edges of the ridge, and of the rotations.
func TestRidge(t *testing.T) {
	b := api.Book{Cols: 2, Net: of(1, 2, 3, 4, 5, 6), In: of(10, 20, 30, 40, 50, 60), Rows: 1, Turns: 6}
	if c, err := Ridge(b, 3); err != api.OK || !sameBook(c, api.Book{Cols: 2, Net: of(10, 2, 3, 13, 5, 6), In: of(19, 20, 30, 49, 50, 60), Rows: 1, Turns: 12}) {
		t.Errorf("Ridge(%v, 3): %v, %d", b, c, err)
	}
	seed := drawer(10)
	for cols := 1; cols <= 6; cols++ {
		ridges := []float64{lowest, highest, math.Nextafter(lowest, 1), math.Nextafter(highest, 0), 0.1, 1}
		for range 20 {
			ridges = append(ridges, math.Abs(seed.float(399))+lowest)
		}
		for _, mu := range ridges {
			b := seed.book(cols)
			if c, err := Ridge(b, mu); err != api.OK || !sameBook(c, ridgeByWords(b, mu)) || !Check(c) {
				t.Errorf("Ridge(%v, %v): %v, %d, not %v", b, mu, c, err, ridgeByWords(b, mu))
			}
		}
		last := counted(seed.book(cols), 200, 4096-cols*(cols+1))
		if c, err := Ridge(last, 2); err != api.OK || !sameBook(c, ridgeByWords(last, 2)) || c.Turns != 4096 {
			t.Errorf("Ridge(%v, 2): %v, %d", last, c, err)
		}
		// None at all costs nothing, even where there is no room.
		for _, n := range [][2]int{{0, 0}, {200, 4096}, {5, 4095}} {
			b := counted(seed.book(cols), n[0], n[1])
			if c, err := Ridge(b, 0); err != api.OK || !sameBook(c, b) {
				t.Errorf("Ridge(%v, 0): %v, %d", b, c, err)
			}
		}
	}
}

// P19.5: each error is told ahead of those that are named later.
func TestRidgeRefuses(t *testing.T) {
	never := append(slices.Clone(notIn), minusZero, -1, -lowest, -highest, math.Copysign(math.NaN(), -1))
	for _, b := range wrong() {
		for _, mu := range append(never, 0, 1) {
			hold(t, "Ridge", api.ErrArg)(Ridge(b, mu))
		}
	}
	seed := drawer(11)
	for cols := 1; cols <= 6; cols++ {
		b := seed.book(cols)
		for _, mu := range never {
			hold(t, "Ridge", api.ErrRange)(Ridge(b, mu))
			hold(t, "Ridge", api.ErrRange)(Ridge(counted(b, 200, 4096), mu))
		}
		for _, turns := range []int{4097 - cols*(cols+1), 4095, 4096} {
			hold(t, "Ridge", api.ErrFull)(Ridge(counted(b, 0, turns), 1))
			hold(t, "Ridge", api.ErrFull)(Ridge(counted(b, 0, turns), lowest))
		}
	}
}

// factor is one of so many columns, and the book of it.
func (d *drawer) factor(cols, turns int) (api.Factor, api.Book) {
	f := api.Factor{Cols: cols, Rows: d.below(201), Turns: turns}
	for range size(cols) {
		f.Tri = append(f.Tri, d.float(20))
	}
	for i := range cols + 1 {
		f.Tri[place(cols, i, i)] = math.Abs(d.float(20)) + 1
	}
	b, err := Of(f)
	if err != api.OK {
		panic("no book")
	}
	return f, b
}

// P19.6: at each place Net may be as far away as near.Bound tells of In's diagonal and the rotations, and no further.
func TestNearAtTheBound(t *testing.T) {
	seed := drawer(12)
	little := api.Dyad{N: api.Nat{1}, Exp: -4000}
	for cols := 1; cols <= 6; cols++ {
		for _, turns := range []int{0, 1, 17, 4096} {
			f, b := seed.factor(cols, turns)
			if at, is := Near(b, f); at != 0 || !is {
				t.Errorf("Near(%v, %v): %d, %v", b, f, at, is)
			}
			// What came in is more than what is there.
			for i := range cols + 1 {
				b.In[place(cols, i, i)] = dyad.Mul(b.In[place(cols, i, i)], of(1 + float64(seed.below(1000)))[0])
			}
			for i := range cols + 1 {
				for j := i; j <= cols; j++ {
					at := place(cols, i, j)
					most := near.Bound(b.In[place(cols, i, i)], b.In[place(cols, j, j)], turns)
					for _, by := range []api.Dyad{most, dyad.Neg(most)} {
						c := kept(b)
						c.Net[at] = dyad.Add(b.Net[at], by)
						if told, is := Near(c, f); told != 0 || !is {
							t.Errorf("at the bound, place %d: %d, %v", at, told, is)
						}
						step := little
						step.Neg = by.Neg
						c.Net[at] = dyad.Add(c.Net[at], step)
						if told, is := Near(c, f); told != at || is {
							t.Errorf("beyond the bound, place %d: %d, %v", at, told, is)
						}
						// A later place is of no moment then.
						c.Net[size(cols)-1] = api.Dyad{}
						if told, is := Near(c, f); told != at || is {
							t.Errorf("beyond the bound, place %d: %d, %v", at, told, is)
						}
					}
				}
			}
		}
	}
}

// P19.6: what may not be, and what is not the same.
func TestNearRefuses(t *testing.T) {
	seed := drawer(13)
	f, b := seed.factor(2, 100)
	for _, c := range wrong() {
		for _, g := range []api.Factor{f, {}, {Cols: c.Cols, Tri: make([]float64, min(max(0, c.Cols), 9)), Rows: c.Rows, Turns: c.Turns}} {
			if at, is := Near(c, g); at != 0 || is {
				t.Errorf("Near(%v, %v): %d, %v", c, g, at, is)
			}
		}
	}
	for _, g := range wrongFactors() {
		c := api.Book{Cols: g.Cols, Net: make([]api.Dyad, tri.Size(g.Cols)), In: make([]api.Dyad, tri.Size(g.Cols)), Rows: g.Rows, Turns: g.Turns}
		for _, c := range []api.Book{b, c} {
			if at, is := Near(c, g); at != 0 || is {
				t.Errorf("Near(%v, %v): %d, %v", c, g, at, is)
			}
		}
	}
	// A dyad that may not be is not taken as the 0 that would be near.
	for cols := 1; cols <= 6; cols++ {
		zero, _ := tri.New(cols)
		for at := range size(cols) {
			for _, d := range wrongDyads() {
				b, _ := New(cols)
				c := kept(b)
				b.Net[at], c.In[at] = d, d
				for _, b := range []api.Book{b, c} {
					if told, is := Near(b, zero); told != 0 || is {
						t.Errorf("Near(%v, %v): %d, %v", b, zero, told, is)
					}
				}
			}
		}
	}
	for cols := 1; cols <= 6; cols++ {
		f, b := seed.factor(cols, 100)
		f.Rows, b.Rows = 7, 7
		for _, n := range [][2]int{{6, 100}, {8, 100}, {7, 99}, {7, 101}, {0, 0}, {200, 4096}} {
			if at, is := Near(counted(b, n[0], n[1]), f); at != 0 || is {
				t.Errorf("Near of %d rows and %d rotations: %d, %v", n[0], n[1], at, is)
			}
		}
		other, _ := New(cols%6 + 1)
		zero, _ := tri.New(cols)
		if at, is := Near(other, zero); at != 0 || is {
			t.Errorf("Near of other columns: %d, %v", at, is)
		}
		// Even beside a place that is not near.
		wrong := kept(b)
		wrong.Net[size(cols)-1] = of(-1)[0]
		if at, is := Near(wrong, f); at != size(cols)-1 || is {
			t.Errorf("Near of a wrong last place: %d, %v", at, is)
		}
		if at, is := Near(counted(wrong, 6, 100), f); at != 0 || is {
			t.Errorf("Near of a wrong last place and other rows: %d, %v", at, is)
		}
	}
}

// P19.6: an In that is not above what is there leaves no room.
func TestNearTakesIn(t *testing.T) {
	f := api.Factor{Cols: 1, Tri: []float64{1, 0, 0}, Rows: 1, Turns: 1}
	b := api.Book{Cols: 1, Net: []api.Dyad{of(1 + 0x1p-40)[0], {}, {}}, In: of(1, 0, 0), Rows: 1, Turns: 1}
	if at, is := Near(b, f); at != 0 || is {
		t.Errorf("an In of 1: %d, %v", at, is)
	}
	b.In = of(0x1p20, 0, 0)
	if at, is := Near(b, f); at != 0 || !is {
		t.Errorf("an In of 2^20: %d, %v", at, is)
	}
}

// pair is a factor and a book to both of which the same is done.
type pair struct {
	factor api.Factor
	book   api.Book
	rows   []api.Row
}

func newPair(cols int) pair {
	f, _ := tri.New(cols)
	b, _ := New(cols)
	return pair{factor: f, book: b}
}

// walker does things to pairs, and counts what came of each.
type walker struct {
	*drawer
	t    *testing.T
	went map[string]int
}

// done is p, to which something was done, if both took it. What the book refuses, the factor does, too.
func (w walker) done(what string, p pair, f api.Factor, wrong api.Errno, b api.Book, err api.Errno) pair {
	w.t.Helper()
	switch {
	case err != api.OK && wrong != err:
		w.t.Fatalf("%s: the book tells %d, the factor %d", what, err, wrong)
	case wrong != api.OK:
		w.went[what+" refused"]++
		return p
	}
	w.went[what]++
	if at, is := Near(b, f); at != 0 || !is {
		w.t.Fatalf("%s: %v is not near to %v: place %d", what, b, f, at)
	}
	return pair{f, b, p.rows}
}

func (w walker) insert(p pair, r api.Row) pair {
	f, wrong := absorb.Row(p.factor, r)
	b, err := In(p.book, r)
	if wrong == api.OK {
		p.rows = append(slices.Clone(p.rows), r)
	}
	return w.done("insert", p, f, wrong, b, err)
}

func (w walker) remove(p pair, r api.Row) pair {
	f, wrong := shed.Row(p.factor, r)
	b, err := Out(p.book, r)
	return w.done("remove", p, f, wrong, b, err)
}

func (w walker) fade(p pair, beta float64) pair {
	f, wrong := fade.Factor(p.factor, beta)
	b, err := Fade(p.book, beta)
	return w.done("fade", p, f, wrong, b, err)
}

func (w walker) ridge(p pair, mu float64) pair {
	f, wrong := absorb.Ridge(p.factor, mu)
	b, err := Ridge(p.book, mu)
	return w.done("ridge", p, f, wrong, b, err)
}

func (w walker) join(p, q pair) pair {
	f, wrong := merge.Two(p.factor, q.factor)
	b, err := Join(p.book, q.book)
	p.rows = slices.Concat(p.rows, q.rows)
	return w.done("join", p, f, wrong, b, err)
}

// step does one thing to one of l.
func (w walker) step(l []pair, width int) {
	k := w.below(len(l))
	p, cols := l[k], l[k].factor.Cols
	switch w.below(12) {
	case 0, 1, 2, 3, 4:
		l[k] = w.insert(p, w.row(cols, width))
	case 5, 6, 7:
		if len(p.rows) > 0 {
			l[k] = w.remove(p, p.rows[w.below(len(p.rows))])
		}
	case 8:
		l[k] = w.fade(p, w.beta())
	case 9:
		l[k] = w.ridge(p, math.Abs(w.float(width)))
	case 10:
		other := (k + 1) % len(l)
		l[k], l[other] = w.join(p, l[other]), newPair(cols)
	case 11:
		// The same row over and over, and one that leans on others: little is left on the diagonal.
		r := w.row(cols, width)
		for range 3 {
			l[k] = w.insert(l[k], r)
		}
		l[k] = w.remove(l[k], r)
	}
}

// P19.7: rows of all sizes come in, are taken out, are forgotten and merged, in any order.
func TestBookIsNearAtEachMoment(t *testing.T) {
	seed := drawer(14)
	w := walker{&seed, t, map[string]int{}}
	for cols := 1; cols <= 6; cols++ {
		for _, width := range []int{0, 1, 4, 30, 150, 399} {
			for range 3 {
				l := []pair{newPair(cols), newPair(cols), newPair(cols)}
				for range 70 {
					w.step(l, width)
				}
			}
		}
	}
	for _, what := range []string{"insert", "remove", "remove refused", "fade", "ridge", "join"} {
		if w.went[what] < 100 {
			t.Errorf("%s: only %d times", what, w.went[what])
		}
	}
}

// P19.7: up to the last row and the last rotation; what is refused for too many is refused by both.
func TestBookIsNearTillItIsFull(t *testing.T) {
	seed := drawer(15)
	for cols := 1; cols <= 6; cols++ {
		w := walker{&seed, t, map[string]int{}}
		p := newPair(cols)
		for range 210 {
			p = w.insert(p, w.row(cols, 2))
		}
		if p.book.Rows != 200 || w.went["insert refused"] != 10 {
			t.Errorf("%d columns: %d rows", cols, p.book.Rows)
		}
		for p.book.Turns+cols+1 <= 4096 {
			p = w.insert(w.remove(p, p.rows[w.below(200)]), w.row(cols, 0))
			if w.went["remove refused"] > 400 {
				break
			}
		}
		p = w.fade(w.join(w.ridge(p, 1), newPair(cols)), 0.5)
	}
}

// P19.7: what vanishes in floats: rows of the least numbers, forgotten over and over, and then great ones.
func TestBookIsNearToWhatVanishes(t *testing.T) {
	seed := drawer(16)
	for cols := 1; cols <= 6; cols++ {
		w := walker{&seed, t, map[string]int{}}
		p := newPair(cols)
		for range cols + 2 {
			r := w.row(cols, 0)
			for i := range r.X {
				r.X[i] *= lowest
			}
			r.Y *= lowest
			p = w.insert(p, r)
		}
		for range 60 {
			p = w.fade(p, leastBeta)
		}
		p = w.insert(p, w.row(cols, 399))
		p = w.remove(p, p.rows[len(p.rows)-1])
		p = w.ridge(p, lowest)
		for range 60 {
			p = w.fade(p, w.beta())
		}
		p = w.join(p, p)
		if p.book.Turns == 0 {
			t.Errorf("%d columns: nothing was done", cols)
		}
	}
}

// P19.7: a book to which something else was done is not near, and one of the factor itself is.
func TestBookOfAnotherRowIsNotNear(t *testing.T) {
	p := newPair(2)
	seed := drawer(17)
	w := walker{&seed, t, map[string]int{}}
	for range 5 {
		p = w.insert(p, w.row(2, 3))
	}
	r := api.Row{X: []float64{1, 2}, Y: 3}
	f, _ := absorb.Row(p.factor, r)
	r.Y = math.Nextafter(3, 4) * (1 + 0x1p-30)
	b, _ := In(p.book, r)
	if _, is := Near(b, f); is {
		t.Errorf("%v is near to %v", b, f)
	}
	b, err := Of(p.factor)
	if at, is := Near(b, p.factor); err != api.OK || at != 0 || !is {
		t.Errorf("Of(%v) is not near to it", p.factor)
	}
}

// scribble changes all that l has, digits and all.
func scribble(l []api.Dyad) {
	for i := range l {
		for k := range l[i].N {
			l[i].N[k] = ^l[i].N[k]
		}
		l[i] = api.Dyad{Neg: true, N: api.Nat{7}, Exp: 3}
	}
}

// R5: what is handed in is not changed, no answer shares its memory, nor do the lists of one answer.
func TestAnswersAreNewMemory(t *testing.T) {
	seed := drawer(18)
	for cols := 1; cols <= 6; cols++ {
		a, b, r := seed.book(cols), seed.book(cols), seed.row(cols, 3)
		// The same list on both sides of what is handed in.
		a.In = a.Net
		f, _ := seed.factor(cols, 9)
		for i, call := range []func() (api.Book, api.Errno){
			func() (api.Book, api.Errno) { return New(cols) },
			func() (api.Book, api.Errno) { return Of(f) },
			func() (api.Book, api.Errno) { return In(a, r) },
			func() (api.Book, api.Errno) { return Out(a, r) },
			func() (api.Book, api.Errno) { return Fade(a, 1) },
			func() (api.Book, api.Errno) { return Fade(a, 0.5) },
			func() (api.Book, api.Errno) { return Join(a, b) },
			func() (api.Book, api.Errno) { return Join(a, a) },
			func() (api.Book, api.Errno) { return Ridge(a, 0) },
			func() (api.Book, api.Errno) { return Ridge(a, 2) },
			func() (api.Book, api.Errno) { return In(a, api.Row{X: make([]float64, cols)}) },
			func() (api.Book, api.Errno) { return Out(a, api.Row{X: make([]float64, cols)}) },
		} {
			first, other, x, entries := kept(a), kept(b), slices.Clone(r.X), slices.Clone(f.Tri)
			c, err := call()
			want := kept(c)
			scribble(c.Net)
			if err != api.OK || !same(c.In, want.In) {
				t.Errorf("call %d: %d, or the lists of its answer share memory", i, err)
			}
			scribble(c.In)
			if !sameBook(a, first) || !sameBook(b, other) || !slices.Equal(r.X, x) || !slices.Equal(f.Tri, entries) {
				t.Fatalf("call %d changed what was handed in, or shares it", i)
			}
			if again, _ := call(); !sameBook(again, want) {
				t.Errorf("call %d again: %v, not %v", i, again, want)
			}
		}
	}
}

// R1: beyond the bound nothing panics, and what comes may be.
func TestBeyondTheBound(t *testing.T) {
	b, _ := New(1)
	for _, exp := range []int{20000, -20000} {
		for i := range b.Net {
			b.Net[i] = api.Dyad{N: api.Nat{3, 1<<32 - 1, 1<<32 - 1}, Exp: exp}
			b.In[i] = api.Dyad{Neg: true, N: api.Nat{1<<32 - 1, 1<<32 - 1}, Exp: -exp}
		}
		b.Rows = 1
		r := api.Row{X: []float64{highest}, Y: -lowest}
		f, _ := tri.New(1)
		f.Rows = 1
		for i, call := range []func() (api.Book, api.Errno){
			func() (api.Book, api.Errno) { return In(b, r) },
			func() (api.Book, api.Errno) { return Out(b, r) },
			func() (api.Book, api.Errno) { return Fade(b, 0.3) },
			func() (api.Book, api.Errno) { return Join(b, b) },
			func() (api.Book, api.Errno) { return Ridge(b, 0.3) },
		} {
			if c, err := call(); err != api.OK || !Check(c) {
				t.Errorf("call %d: %v, %d", i, c, err)
			}
		}
		Near(b, f)
	}
}

// gram's list of a row, and a ledger's, are one.
func TestBookOfRowsIsTheirGramList(t *testing.T) {
	seed := drawer(19)
	for cols := 1; cols <= 6; cols++ {
		b, _ := New(cols)
		var rows []api.Row
		for range 30 {
			rows = append(rows, seed.row(cols, 399))
			b, _ = In(b, rows[len(rows)-1])
		}
		if list, _ := gram.Rows(cols, rows); !same(b.Net, list) || !same(b.In, list) || b.Rows != 30 || b.Turns != 30*(cols+1) {
			t.Errorf("%d columns: not what the rows come to", cols)
		}
	}
}
