package tri

import (
	"math"
	"slices"
	"testing"

	"levelling/api"
)

var (
	minusZero = math.Copysign(0, -1)
	infinity  = math.Inf(1)
	greatest  = math.Ldexp(1, 420)
	tooGreat  = math.Nextafter(greatest, infinity)
)

const least = math.SmallestNonzeroFloat64

// outside has numbers of columns of which there is no triangle.
var outside = []int{0, -1, -2, -3, 7, 8, 100, 1 << 32, math.MaxInt - 1, math.MaxInt, math.MinInt, math.MinInt + 1}

func sameBits(a, b float64) bool { return math.Float64bits(a) == math.Float64bits(b) }

func sameList(a, b []float64) bool { return slices.EqualFunc(a, b, sameBits) }

func sameFactor(a, b api.Factor) bool {
	return a.Cols == b.Cols && a.Rows == b.Rows && a.Turns == b.Turns && sameList(a.Tri, b.Tri)
}

func isZero(f api.Factor) bool { return sameFactor(f, api.Factor{}) }

// copied is f, of memory of its own.
func copied(f api.Factor) api.Factor {
	f.Tri = slices.Clone(f.Tri)
	return f
}

// place is where row i, column j is stored, counted entry by entry; -1, if it isn't.
func place(cols, i, j int) int {
	at := 0
	for row := 0; row <= cols; row++ {
		for column := row; column <= cols; column++ {
			if row == i && column == j {
				return at
			}
			at++
		}
	}
	return -1
}

// filled is a factor of so many columns, no two entries of which are the same.
func filled(cols int) api.Factor {
	f := api.Factor{Cols: cols, Rows: 3 * cols, Turns: 5 * cols}
	for at := range (cols + 1) * (cols + 2) / 2 {
		f.Tri = append(f.Tri, -0.5-float64(at))
	}
	for i := 0; i <= cols; i++ {
		f.Tri[place(cols, i, i)] *= -1
	}
	return f
}

// changed is f with x in the place of row i, column j.
func changed(f api.Factor, i, j int, x float64) api.Factor {
	f = copied(f)
	f.Tri[place(f.Cols, i, j)] = x
	return f
}

// edges has factors that may be, for each number of columns, with the edges of what may be.
func edges() []api.Factor {
	var l []api.Factor
	for cols := 1; cols <= 6; cols++ {
		f := filled(cols)
		l = append(l, f, changed(f, 0, 0, 0), changed(f, cols, cols, 0), changed(f, cols, cols, greatest), changed(f, cols-1, cols-1, least))
		for _, x := range []float64{0, minusZero, 7, -7, least, -least, greatest, -greatest} {
			l = append(l, changed(f, 0, 1, x), changed(f, cols-1, cols, x))
		}
		for _, rows := range []int{0, 200} {
			for _, turns := range []int{0, 4096} {
				f.Rows, f.Turns = rows, turns
				l = append(l, copied(f))
			}
		}
	}
	return l
}

// wrong has factors that may not be, each for one reason alone.
func wrong() []api.Factor {
	l := []api.Factor{{}, {Cols: 1}, {Tri: []float64{1}}, {Tri: []float64{1, 2, 3}}}
	for _, cols := range outside {
		l = append(l, api.Factor{Cols: cols, Tri: make([]float64, 3)}, api.Factor{Cols: cols, Tri: make([]float64, 36)}, api.Factor{Cols: cols})
	}
	for cols := 1; cols <= 6; cols++ {
		f := filled(cols)
		for i := 0; i <= cols; i++ {
			for j := i; j <= cols; j++ {
				for _, x := range []float64{tooGreat, -tooGreat, math.MaxFloat64, -math.MaxFloat64, infinity, -infinity, math.NaN()} {
					l = append(l, changed(f, i, j, x))
				}
			}
			for _, x := range []float64{minusZero, -least, -1, -greatest} {
				l = append(l, changed(f, i, i, x))
			}
		}
		for _, n := range []int{-1, math.MinInt, math.MaxInt} {
			l = append(l, api.Factor{Cols: cols, Tri: f.Tri, Rows: n}, api.Factor{Cols: cols, Tri: f.Tri, Turns: n})
		}
		l = append(l, api.Factor{Cols: cols, Tri: f.Tri, Rows: 201}, api.Factor{Cols: cols, Tri: f.Tri, Turns: 4097})
		size := len(f.Tri)
		l = append(l, api.Factor{Cols: cols, Tri: f.Tri[:size-1]}, api.Factor{Cols: cols, Tri: append(slices.Clone(f.Tri), 1)}, api.Factor{Cols: cols%6 + 1, Tri: f.Tri}, api.Factor{Cols: cols})
	}
	return l
}

// P7.1
func TestSize(t *testing.T) {
	for cols, want := range []int{0, 3, 6, 10, 15, 21, 28, 0} {
		if n := Size(cols); n != want {
			t.Errorf("Size(%d): %d, not %d", cols, n, want)
		}
	}
	for _, cols := range outside {
		if n := Size(cols); n != 0 {
			t.Errorf("Size(%d): %d", cols, n)
		}
	}
}

// P7.1: the document's example, and each place of each triangle.
func TestAt(t *testing.T) {
	if at, is := At(2, 1, 2); at != 4 || !is {
		t.Errorf("At(2, 1, 2): %d, %v", at, is)
	}
	for cols := 1; cols <= 6; cols++ {
		for i := -2; i <= cols+2; i++ {
			for j := -2; j <= cols+2; j++ {
				want := place(cols, i, j)
				at, is := At(cols, i, j)
				if is != (want >= 0) || at != max(want, 0) {
					t.Errorf("At(%d, %d, %d): %d, %v", cols, i, j, at, is)
				}
			}
		}
	}
}

// P7.1: wrong inputs.
func TestAtRefuses(t *testing.T) {
	for _, cols := range outside {
		for _, i := range []int{0, 1, 3} {
			if at, is := At(cols, i, i); at != 0 || is {
				t.Errorf("At(%d, %d, %d): %d, %v", cols, i, i, at, is)
			}
		}
	}
	for _, c := range [][2]int{{1, 0}, {2, 1}, {-1, -1}, {-1, 0}, {0, -1}, {0, 3}, {3, 3}, {0, math.MaxInt}, {math.MinInt, 0}, {math.MinInt, math.MaxInt}, {math.MaxInt, math.MaxInt}, {math.MaxInt, math.MinInt}} {
		if at, is := At(2, c[0], c[1]); at != 0 || is {
			t.Errorf("At(2, %d, %d): %d, %v", c[0], c[1], at, is)
		}
	}
}

// P7.2
func TestNew(t *testing.T) {
	for cols, size := range map[int]int{1: 3, 2: 6, 3: 10, 4: 15, 5: 21, 6: 28} {
		f, err := New(cols)
		if err != api.OK || !sameFactor(f, api.Factor{Cols: cols, Tri: make([]float64, size)}) || !Check(f) {
			t.Errorf("New(%d): %v, %d", cols, f, err)
		}
	}
	for _, cols := range outside {
		if f, err := New(cols); err != api.ErrArg || !isZero(f) {
			t.Errorf("New(%d): %v, %d", cols, f, err)
		}
	}
}

// P7.3
func TestCheck(t *testing.T) {
	for _, f := range edges() {
		if !Check(f) {
			t.Errorf("Check(%v): false", f)
		}
	}
	for _, f := range wrong() {
		if Check(f) {
			t.Errorf("Check(%v): true", f)
		}
	}
}

// P7.4
func TestGet(t *testing.T) {
	for _, f := range edges() {
		for i := -1; i <= f.Cols+1; i++ {
			for j := -1; j <= f.Cols+1; j++ {
				want := 0.0
				if at := place(f.Cols, i, j); at >= 0 {
					want = f.Tri[at]
				}
				if x := Get(f, i, j); !sameBits(x, want) {
					t.Errorf("Get(%v, %d, %d): %v, not %v", f, i, j, x, want)
				}
			}
		}
		for _, n := range []int{math.MinInt, math.MaxInt} {
			if !sameBits(Get(f, n, n), 0) || !sameBits(Get(f, 0, n), 0) || !sameBits(Get(f, n, f.Cols), 0) {
				t.Errorf("Get of %v at %d", f, n)
			}
		}
	}
	for _, f := range wrong() {
		for i := 0; i <= 6; i++ {
			if x := Get(f, 0, i); !sameBits(x, 0) {
				t.Errorf("Get(%v, 0, %d): %v", f, i, x)
			}
			if x := Get(f, i, i); !sameBits(x, 0) {
				t.Errorf("Get(%v, %d, %d): %v", f, i, i, x)
			}
		}
	}
}

// P7.4
func TestLine(t *testing.T) {
	f := api.Factor{Cols: 2, Tri: []float64{1, -2, 3, 4, minusZero, 6}}
	for i, want := range [][]float64{{1, -2, 3}, {0, 4, minusZero}, {0, 0, 6}} {
		if l := Line(f, i); !sameList(l, want) {
			t.Errorf("Line(%v, %d): %v, not %v", f, i, l, want)
		}
	}
	for _, f := range edges() {
		for i := 0; i <= f.Cols; i++ {
			want := make([]float64, f.Cols+1)
			for j := i; j <= f.Cols; j++ {
				want[j] = f.Tri[place(f.Cols, i, j)]
			}
			if l := Line(f, i); !sameList(l, want) {
				t.Errorf("Line(%v, %d): %v, not %v", f, i, l, want)
			}
		}
		for _, i := range []int{-1, f.Cols + 1, math.MinInt, math.MaxInt} {
			if l := Line(f, i); len(l) != 0 {
				t.Errorf("Line(%v, %d): %v", f, i, l)
			}
		}
	}
	for _, f := range wrong() {
		for i := 0; i <= 6; i++ {
			if l := Line(f, i); len(l) != 0 {
				t.Errorf("Line(%v, %d): %v", f, i, l)
			}
		}
	}
}

// P7.5
func TestSet(t *testing.T) {
	f := api.Factor{Cols: 2, Tri: []float64{1, -2, 3, 4, minusZero, 6}, Rows: 5, Turns: 7}
	for _, c := range []struct {
		i    int
		l    []float64
		want []float64
	}{
		{0, []float64{7, 8, 9}, []float64{7, 8, 9, 4, minusZero, 6}},
		{1, []float64{7, 8, 9}, []float64{1, -2, 3, 8, 9, 6}},
		{2, []float64{7, 8, 9}, []float64{1, -2, 3, 4, minusZero, 9}},
		{0, []float64{0, minusZero, -least}, []float64{0, minusZero, -least, 4, minusZero, 6}},
		{0, []float64{greatest, -greatest, greatest}, []float64{greatest, -greatest, greatest, 4, minusZero, 6}},
		// What stands ahead of place i is not looked at.
		{1, []float64{math.NaN(), 0, minusZero}, []float64{1, -2, 3, 0, minusZero, 6}},
		{2, []float64{infinity, -tooGreat, greatest}, []float64{1, -2, 3, 4, minusZero, greatest}},
		{2, []float64{minusZero, minusZero, 0}, []float64{1, -2, 3, 4, minusZero, 0}},
	} {
		g, is := Set(f, c.i, c.l)
		if !is || !sameFactor(g, api.Factor{Cols: 2, Tri: c.want, Rows: 5, Turns: 7}) {
			t.Errorf("Set(%v, %d, %v): %v, %v, not %v", f, c.i, c.l, g, is, c.want)
		}
	}
}

func refusesSet(t *testing.T, f api.Factor, i int, l []float64) {
	t.Helper()
	if g, is := Set(f, i, l); is || !isZero(g) {
		t.Errorf("Set(%v, %d, %v): %v, %v", f, i, l, g, is)
	}
}

// P7.5: wrong inputs.
func TestSetRefuses(t *testing.T) {
	for cols := 1; cols <= 6; cols++ {
		f, l := filled(cols), slices.Repeat([]float64{1}, cols+1)
		for _, i := range []int{-1, cols + 1, math.MinInt, math.MaxInt} {
			refusesSet(t, f, i, l)
		}
		for i := 0; i <= cols; i++ {
			for _, other := range [][]float64{nil, {}, l[:cols], append(slices.Clone(l), 1), l[i+1:], slices.Repeat([]float64{1}, 100)} {
				refusesSet(t, f, i, other)
			}
			for _, x := range []float64{minusZero, -least, -1} {
				l := slices.Clone(l)
				l[i] = x
				refusesSet(t, f, i, l)
			}
			for j := i; j <= cols; j++ {
				for _, x := range []float64{tooGreat, -tooGreat, infinity, -infinity, math.NaN()} {
					l := slices.Clone(l)
					l[j] = x
					refusesSet(t, f, i, l)
				}
			}
		}
	}
	for _, f := range wrong() {
		for i := range 7 {
			for n := range 8 {
				refusesSet(t, f, i, slices.Repeat([]float64{1}, n))
			}
		}
	}
}

// P7.6: a factor is its lines.
func TestFactorIsItsLines(t *testing.T) {
	for _, f := range edges() {
		g, _ := New(f.Cols)
		g.Rows, g.Turns = f.Rows, f.Turns
		for i := f.Cols; i >= 0; i-- {
			l := Line(f, i)
			for j, x := range l {
				if !sameBits(x, Get(f, i, j)) {
					t.Errorf("Get(%v, %d, %d) is not %v", f, i, j, x)
				}
			}
			var is bool
			if g, is = Set(g, i, l); !is {
				t.Fatalf("line %d of %v is refused", i, f)
			}
		}
		if !sameFactor(f, g) {
			t.Errorf("%v is not its lines: %v", f, g)
		}
	}
}

// P7.6: what is set is got, and all else is as it was.
func TestWhatIsSetIsGot(t *testing.T) {
	for cols := 1; cols <= 6; cols++ {
		f := filled(cols)
		l := make([]float64, cols+1)
		for j := range l {
			l[j] = 100 + float64(j)
		}
		for i := 0; i <= cols; i++ {
			g, _ := Set(f, i, l)
			if g.Cols != f.Cols || g.Rows != f.Rows || g.Turns != f.Turns {
				t.Errorf("Set(%v, %d, %v): %v", f, i, l, g)
			}
			for row := 0; row <= cols; row++ {
				want := Line(f, row)
				if row == i {
					copy(want[i:], l[i:])
				}
				if got := Line(g, row); !sameList(got, want) {
					t.Errorf("Set(%v, %d, %v): row %d: %v, not %v", f, i, l, row, got, want)
				}
			}
		}
	}
}

// R5: what is handed in is not changed, and no answer shares its memory.
func TestAnswersAreNewMemory(t *testing.T) {
	for cols := 1; cols <= 6; cols++ {
		f := filled(cols)
		ahead := copied(f)
		for i := 0; i <= cols; i++ {
			l := slices.Repeat([]float64{2}, cols+1)
			g, _ := Set(f, i, l)
			if !sameFactor(f, ahead) || !sameList(l, slices.Repeat([]float64{2}, cols+1)) {
				t.Fatalf("Set changed what was handed in: %v, %v", f, l)
			}
			clear(g.Tri)
			clear(Line(f, i))
			if !sameFactor(f, ahead) || !sameList(l, slices.Repeat([]float64{2}, cols+1)) {
				t.Fatalf("an answer shares what was handed in: %v, %v", f, l)
			}
			l[i] = -1
			refusesSet(t, f, i, l)
			if !sameFactor(f, ahead) {
				t.Fatalf("Set changed what was handed in: %v", f)
			}
		}
	}
}
