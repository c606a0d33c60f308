package fade

import (
	"math"
	"slices"
	"testing"

	"levelling/api"
	"levelling/gram"
	"levelling/near"
)

const least = math.SmallestNonzeroFloat64

var (
	minusZero = math.Copysign(0, -1)
	infinity  = math.Inf(1)
	// Betas begin at low; a triangle's entries end at greatest.
	low      = math.Ldexp(1, -20)
	greatest = math.Ldexp(1, 420)
	tooGreat = math.Nextafter(greatest, infinity)
)

// fades has numbers to fade by, and wrongFades others.
var (
	fades      = []float64{1, math.Nextafter(1, 0), low, math.Nextafter(low, 1), 0.5, 0.75, 0.1, 1.0 / 3, 0.999}
	wrongFades = []float64{math.Nextafter(1, 2), math.Nextafter(low, 0), 0, minusZero, -1, -0.5, -low, least, -least, 2, math.MaxFloat64, infinity, -infinity, math.NaN()}
)

func sameBits(a, b float64) bool { return math.Float64bits(a) == math.Float64bits(b) }

func sameFactor(a, b api.Factor) bool {
	return a.Cols == b.Cols && a.Rows == b.Rows && a.Turns == b.Turns && slices.EqualFunc(a.Tri, b.Tri, sameBits)
}

func isZero(f api.Factor) bool { return sameFactor(f, api.Factor{}) }

func copied(f api.Factor) api.Factor {
	f.Tri = slices.Clone(f.Tri)
	return f
}

func size(cols int) int { return (cols + 1) * (cols + 2) / 2 }

func place(cols, i, j int) int {
	at := 0
	for row := range i {
		at += cols + 1 - row
	}
	return at + j - i
}

// filled is a factor of so many columns, no two entries of which are the same.
func filled(cols int) api.Factor {
	f := api.Factor{Cols: cols, Rows: 3, Turns: 5}
	for at := range size(cols) {
		f.Tri = append(f.Tri, -0.5-float64(at))
	}
	for i := range cols + 1 {
		f.Tri[place(cols, i, i)] *= -1
	}
	return f
}

// changed is f with x in the place of row i, column j.
func changed(f api.Factor, i, j int, x float64) api.Factor {
	f = copied(f)
	f.Tri[place(f.Cols, i, j)] = x
	return f
}

// counted is f with other numbers of rows and rotations.
func counted(f api.Factor, rows, turns int) api.Factor {
	f.Rows, f.Turns = rows, turns
	return f
}

// wrong has factors that may not be.
func wrong() []api.Factor {
	l := []api.Factor{{}, {Cols: 1}, {Tri: make([]float64, 3)}, {Cols: 7, Tri: make([]float64, 36)}, {Cols: -1, Tri: make([]float64, 1)}, {Cols: -3, Tri: make([]float64, 1)}, {Cols: math.MaxInt}, {Cols: math.MinInt}, {Cols: math.MaxInt - 1, Tri: make([]float64, 3)}}
	for cols := 1; cols <= 6; cols++ {
		f := filled(cols)
		l = append(l, changed(f, 0, 0, minusZero), changed(f, cols, cols, -1), changed(f, 0, cols, tooGreat), changed(f, 0, 1, math.NaN()), changed(f, cols, cols, infinity))
		l = append(l, counted(f, -1, 0), counted(f, 201, 0), counted(f, 0, -1), counted(f, 0, 4097), counted(f, math.MaxInt, 0), counted(f, 0, math.MaxInt), counted(f, math.MinInt, 0), counted(f, 0, math.MinInt))
		l = append(l, api.Factor{Cols: cols, Tri: f.Tri[1:]}, api.Factor{Cols: cols, Tri: append(slices.Clone(f.Tri), 1)}, api.Factor{Cols: cols%6 + 1, Tri: f.Tri})
	}
	return l
}

// drawer hands out floats, the same ones again for each start.
type drawer uint64

func (d *drawer) next() uint64 {
	*d ^= *d << 13
	*d ^= *d >> 7
	*d ^= *d << 17
	return uint64(*d)
}

// float has any fraction and sign; its exponent is at most width away from middle. Some are zeros.
func (d *drawer) float(middle, width int) float64 {
	if d.next()%8 == 0 {
		return math.Copysign(0, float64(int64(d.next())))
	}
	x := math.Ldexp(1+float64(d.next()>>12)/(1<<52), middle+int(d.next()%uint64(2*width+1))-width)
	if d.next()%2 == 0 {
		return -x
	}
	return x
}

func (d *drawer) factor(cols, middle, width int) api.Factor {
	f := api.Factor{Cols: cols, Rows: 1, Turns: 1}
	for range size(cols) {
		f.Tri = append(f.Tri, d.float(middle, width))
	}
	for i := range cols + 1 {
		at := place(cols, i, i)
		f.Tri[at] = math.Abs(f.Tri[at])
	}
	return f
}

// beta is one of the numbers to fade by, of any exponent and fraction.
func (d *drawer) beta() float64 {
	return math.Ldexp(1+float64(d.next()>>12)/(1<<52), -1-int(d.next()%20))
}

// factors has some of each number of columns, also with entries that have few bits, and with the greatest.
func factors(seed drawer) []api.Factor {
	var l []api.Factor
	for cols := 1; cols <= 6; cols++ {
		l = append(l, filled(cols), api.Factor{Cols: cols, Tri: make([]float64, size(cols))}, changed(filled(cols), 0, 0, greatest), changed(filled(cols), 0, cols, -greatest), changed(filled(cols), cols, cols, least), counted(filled(cols), 200, 4000))
		for _, middle := range []int{0, 300, -500, -1040, -1072} {
			for _, width := range []int{0, 2, 100} {
				for range 3 {
					l = append(l, seed.factor(cols, middle, width))
				}
			}
		}
	}
	return l
}

// P12.1
func TestMay(t *testing.T) {
	for _, beta := range fades {
		if !May(beta) {
			t.Errorf("May(%v) is false", beta)
		}
	}
	for _, beta := range wrongFades {
		if May(beta) {
			t.Errorf("May(%v) is true", beta)
		}
	}
	for e := -25; e <= 5; e++ {
		if got := May(math.Ldexp(1, e)); got != (e >= -20 && e <= 0) {
			t.Errorf("May of 2^%d: %v", e, got)
		}
	}
}

// factorByWords says P12.2 over again, where nothing is wrong.
func factorByWords(f api.Factor, beta float64) api.Factor {
	f = copied(f)
	for at := range f.Tri {
		f.Tri[at] = f.Tri[at] * beta
	}
	f.Turns++
	return f
}

// P12.2: the document's example, and others by hand.
func TestFactor(t *testing.T) {
	for _, c := range []struct {
		tri  []float64
		beta float64
		want []float64
	}{
		{[]float64{3, 1, 2}, 0.5, []float64{1.5, 0.5, 1}},
		{[]float64{3, 6, 0}, 0.5, []float64{1.5, 3, 0}},
		{[]float64{3, -1, 2}, 1, []float64{3, -1, 2}},
		{[]float64{0, minusZero, 0}, 0.5, []float64{0, minusZero, 0}},
		{[]float64{1, -1, 1 << 20}, low, []float64{low, -low, 1}},
		// Rounded to nearest, ties to even: half the least vanishes, three halves of it are twice it.
		{[]float64{least, -least, 3 * least}, 0.5, []float64{0, minusZero, 2 * least}},
		{[]float64{least, -least, 3 * least}, 0.75, []float64{least, -least, 2 * least}},
		{[]float64{greatest, -greatest, greatest}, 1, []float64{greatest, -greatest, greatest}},
	} {
		f := api.Factor{Cols: 1, Tri: c.tri, Rows: 7, Turns: 9}
		g, err := Factor(f, c.beta)
		if want := (api.Factor{Cols: 1, Tri: c.want, Rows: 7, Turns: 10}); err != api.OK || !sameFactor(g, want) {
			t.Errorf("Factor(%v, %v): %v, %d, not %v", f, c.beta, g, err, want)
		}
	}
}

// P12.2: each entry, by each number.
func TestFactorGoesThroughEntries(t *testing.T) {
	seed := drawer(1)
	for _, f := range factors(2) {
		for _, beta := range append([]float64{seed.beta(), seed.beta(), seed.beta()}, fades...) {
			if g, err := Factor(f, beta); err != api.OK || !sameFactor(g, factorByWords(f, beta)) {
				t.Errorf("Factor(%v, %v): %v, %d", f, beta, g, err)
			}
		}
	}
}

func refusesFactor(t *testing.T, f api.Factor, beta float64, want api.Errno) {
	t.Helper()
	if g, err := Factor(f, beta); err != want || !isZero(g) {
		t.Errorf("Factor(%v, %v): %v, %d, not %d", f, beta, g, err, want)
	}
}

// P12.2: each error, ahead of all that are named later; and how many rotations there may be.
func TestFactorRefuses(t *testing.T) {
	for _, f := range wrong() {
		for _, beta := range append(wrongFades, fades...) {
			refusesFactor(t, f, beta, api.ErrArg)
		}
	}
	for cols := 1; cols <= 6; cols++ {
		for _, turns := range []int{0, 4095, 4096} {
			f := counted(filled(cols), 0, turns)
			for _, beta := range wrongFades {
				refusesFactor(t, f, beta, api.ErrFade)
			}
		}
		for _, beta := range fades {
			refusesFactor(t, counted(filled(cols), 0, 4096), beta, api.ErrFull)
			f := counted(filled(cols), 200, 4095)
			if g, err := Factor(f, beta); err != api.OK || g.Turns != 4096 || g.Rows != 200 {
				t.Errorf("Factor(%v, %v): %v, %d", f, beta, g, err)
			}
		}
	}
}

// oneByOne is P12.3 over again: the numbers that are not refused, by Factor.
func oneByOne(f api.Factor, l []float64) api.Factor {
	for _, beta := range l {
		g, err := Factor(f, beta)
		if err != api.OK {
			break
		}
		f = g
	}
	return f
}

func holdAll(t *testing.T, f api.Factor, l []float64, n int, err api.Errno) {
	t.Helper()
	g, count, got := All(f, l)
	if want := oneByOne(f, l); !sameFactor(g, want) || count != n || got != err || g.Turns != f.Turns+n || g.Rows != f.Rows {
		t.Errorf("All(%v, %v): %v, %d, %d, not %v, %d, %d", f, l, g, count, got, want, n, err)
	}
}

// P12.3
func TestAll(t *testing.T) {
	g, n, err := All(api.Factor{Cols: 1, Tri: []float64{3, -1, 2}, Turns: 1}, []float64{0.5, 0.25, 1})
	if want := (api.Factor{Cols: 1, Tri: []float64{0.375, -0.125, 0.25}, Turns: 4}); err != api.OK || n != 3 || !sameFactor(g, want) {
		t.Errorf("All of 3, -1, 2: %v, %d, %d", g, n, err)
	}
	for _, f := range factors(3) {
		holdAll(t, f, nil, 0, api.OK)
		holdAll(t, f, []float64{}, 0, api.OK)
		holdAll(t, f, fades, len(fades), api.OK)
		for n := range fades {
			l := slices.Clone(fades)
			l[n] = wrongFades[n]
			holdAll(t, f, l, n, api.ErrFade)
		}
	}
	for cols := 1; cols <= 6; cols++ {
		holdAll(t, counted(filled(cols), 0, 4096), nil, 0, api.OK)
		holdAll(t, counted(filled(cols), 0, 4096), fades, 0, api.ErrFull)
		holdAll(t, counted(filled(cols), 0, 4096), wrongFades, 0, api.ErrFade)
		holdAll(t, counted(filled(cols), 0, 4092), fades, 4, api.ErrFull)
		holdAll(t, counted(filled(cols), 0, 4092), fades[:4], 4, api.OK)
		holdAll(t, counted(filled(cols), 0, 4092), []float64{0.5, 0.5, 0.5, 0.5, 2}, 4, api.ErrFade)
		holdAll(t, counted(filled(cols), 0, 0), slices.Repeat([]float64{0.99}, 4100), 4096, api.ErrFull)
	}
}

// P12.3: wrong inputs.
func TestAllRefuses(t *testing.T) {
	for _, f := range wrong() {
		for _, l := range [][]float64{nil, {}, fades, wrongFades} {
			if g, n, err := All(f, l); !isZero(g) || n != 0 || err != api.ErrArg {
				t.Errorf("All(%v, %v): %v, %d, %d", f, l, g, n, err)
			}
		}
	}
}

// P12.4: each time is rounded by itself.
func TestOften(t *testing.T) {
	for _, f := range factors(4) {
		for _, beta := range fades {
			want := copied(f)
			for k := range 8 {
				if g, err := Often(f, beta, k); err != api.OK || !sameFactor(g, want) {
					t.Errorf("Often(%v, %v, %d): %v, %d, not %v", f, beta, k, g, err, want)
				}
				want = factorByWords(want, beta)
			}
		}
	}
	// Three quarters of the least are the least, however often.
	f := api.Factor{Cols: 1, Tri: []float64{least, -least, 0}}
	if g, err := Often(f, 0.75, 4096); err != api.OK || !sameFactor(g, counted(f, 0, 4096)) {
		t.Errorf("Often(%v, 0.75, 4096): %v, %d", f, g, err)
	}
}

func holdOften(t *testing.T, f api.Factor, beta float64, k int, want api.Errno) {
	t.Helper()
	g, err := Often(f, beta, k)
	if err != want || err != api.OK && !isZero(g) || err == api.OK && (g.Turns != f.Turns+k || g.Rows != f.Rows) {
		t.Errorf("Often(%v, %v, %d): %v, %d, not %d", f, beta, k, g, err, want)
	}
}

// P12.4: each error, ahead of all that are named later.
func TestOftenRefuses(t *testing.T) {
	counts := []int{math.MinInt, -4096, -1, 0, 1, 4096, 4097, math.MaxInt - 4096, math.MaxInt}
	for _, f := range wrong() {
		for _, k := range counts {
			holdOften(t, f, 0.5, k, api.ErrArg)
			holdOften(t, f, 2, k, api.ErrArg)
		}
	}
	for cols := 1; cols <= 6; cols++ {
		for _, turns := range []int{0, 1, 4095, 4096} {
			f := counted(filled(cols), 200, turns)
			for _, k := range append([]int{4095 - turns, 4096 - turns, 4097 - turns}, counts...) {
				for _, beta := range wrongFades {
					if k < 0 {
						holdOften(t, f, beta, k, api.ErrArg)
					} else {
						holdOften(t, f, beta, k, api.ErrFade)
					}
				}
				for _, beta := range []float64{1, 0.5, low} {
					switch {
					case k < 0:
						holdOften(t, f, beta, k, api.ErrArg)
					case k > 4096-turns:
						holdOften(t, f, beta, k, api.ErrFull)
					default:
						holdOften(t, f, beta, k, api.OK)
					}
				}
			}
		}
	}
}

// P12.5: behind it, the Gram list is near to that ahead of it, faded, for one rotation; no entry's size grows.
func TestFactorIsNear(t *testing.T) {
	seed := drawer(5)
	for _, f := range factors(6) {
		ahead, _ := gram.Factor(f)
		for _, beta := range append([]float64{seed.beta(), seed.beta(), seed.beta()}, fades...) {
			g, err := Factor(f, beta)
			want, _ := gram.Fade(ahead, beta)
			got, is := gram.Factor(g)
			if at, are := near.Check(f.Cols, want, want, got, 1); err != api.OK || !is || !are {
				t.Errorf("Factor(%v, %v): %v, %d: not near at %d", f, beta, g, err, at)
			}
			for at, x := range g.Tri {
				if math.Abs(x) > math.Abs(f.Tri[at]) {
					t.Errorf("Factor(%v, %v): %v: grew at %d", f, beta, g, at)
				}
			}
		}
	}
}

// P12.5: 1 changes no number, nor any sign.
func TestOneChangesNothing(t *testing.T) {
	for _, f := range factors(7) {
		g, err := Factor(f, 1)
		if err != api.OK || !sameFactor(g, counted(f, f.Rows, f.Turns+1)) {
			t.Errorf("Factor(%v, 1): %v, %d", f, g, err)
		}
		h, err := Often(f, 1, 20)
		if err != api.OK || !sameFactor(h, counted(f, f.Rows, f.Turns+20)) {
			t.Errorf("Often(%v, 1, 20): %v, %d", f, h, err)
		}
	}
}

// R5: what is handed in is not changed, and no answer shares its memory.
func TestAnswersAreNewMemory(t *testing.T) {
	for cols := 1; cols <= 6; cols++ {
		f, l := filled(cols), []float64{0.5, 0.25}
		ahead := copied(f)
		ask := []func() api.Factor{
			func() api.Factor { g, _ := Factor(f, 0.5); return g },
			func() api.Factor { g, _ := Factor(f, 1); return g },
			func() api.Factor { g, _, _ := All(f, l); return g },
			func() api.Factor { g, _, _ := All(f, nil); return g },
			func() api.Factor { g, _, _ := All(f, []float64{2}); return g },
			func() api.Factor { g, _ := Often(f, 0.5, 0); return g },
			func() api.Factor { g, _ := Often(f, 0.5, 3); return g },
		}
		for i, call := range ask {
			g := call()
			if !sameFactor(f, ahead) || !slices.Equal(l, []float64{0.5, 0.25}) {
				t.Fatalf("call %d changed what was handed in: %v, %v", i, f, l)
			}
			if len(g.Tri) != size(cols) {
				t.Fatalf("call %d: %v", i, g)
			}
			clear(g.Tri)
			if !sameFactor(f, ahead) {
				t.Fatalf("call %d shares what was handed in: %v", i, f)
			}
		}
	}
}
