package plan

import (
	"math"
	"slices"
	"testing"

	"levelling/api"
	"levelling/gram"
	"levelling/merge"
	"levelling/near"
)

var (
	minusZero = math.Copysign(0, -1)
	infinity  = math.Inf(1)
	// A triangle's entries end here.
	greatest = math.Ldexp(1, 420)
	tooGreat = math.Nextafter(greatest, infinity)
)

func sameBits(a, b float64) bool { return math.Float64bits(a) == math.Float64bits(b) }

func sameList(a, b []float64) bool { return slices.EqualFunc(a, b, sameBits) }

func sameFactor(a, b api.Factor) bool {
	return a.Cols == b.Cols && a.Rows == b.Rows && a.Turns == b.Turns && sameList(a.Tri, b.Tri)
}

func isZero(f api.Factor) bool { return sameFactor(f, api.Factor{}) }

func copied(f api.Factor) api.Factor {
	f.Tri = slices.Clone(f.Tri)
	return f
}

func size(cols int) int { return (cols + 1) * (cols + 2) / 2 }

func place(cols, i, j int) int {
	at := 0
	for row := range i {
		at += cols + 1 - row
	}
	return at + j - i
}

// empty is a new factor.
func empty(cols int) api.Factor {
	return api.Factor{Cols: cols, Tri: make([]float64, size(cols))}
}

// filled is a factor of so many columns, no two entries of which are the same.
func filled(cols int) api.Factor {
	f := api.Factor{Cols: cols, Rows: 3, Turns: 5}
	for at := range size(cols) {
		f.Tri = append(f.Tri, -0.5-float64(at))
	}
	for i := range cols + 1 {
		f.Tri[place(cols, i, i)] *= -1
	}
	return f
}

// changed is f with x in the place of row i, column j.
func changed(f api.Factor, i, j int, x float64) api.Factor {
	f = copied(f)
	f.Tri[place(f.Cols, i, j)] = x
	return f
}

// counted is f with other numbers of rows and rotations.
func counted(f api.Factor, rows, turns int) api.Factor {
	f.Rows, f.Turns = rows, turns
	return f
}

// wrong has factors that may not be.
func wrong() []api.Factor {
	l := []api.Factor{{}, {Cols: 1}, {Tri: make([]float64, 3)}, {Cols: 7, Tri: make([]float64, 36)}, {Cols: -1, Tri: make([]float64, 1)}, {Cols: -3, Tri: make([]float64, 1)}, {Cols: math.MaxInt}, {Cols: math.MinInt}, {Cols: math.MaxInt - 1, Tri: make([]float64, 3)}}
	for cols := 1; cols <= 6; cols++ {
		f := filled(cols)
		l = append(l, changed(f, 0, 0, minusZero), changed(f, cols, cols, -1), changed(f, 0, cols, tooGreat), changed(f, 0, 1, math.NaN()), changed(f, cols, cols, infinity))
		l = append(l, counted(f, -1, 0), counted(f, 201, 0), counted(f, 0, -1), counted(f, 0, 4097), counted(f, math.MaxInt, 0), counted(f, 0, math.MaxInt), counted(f, math.MinInt, 0), counted(f, 0, math.MinInt))
		l = append(l, api.Factor{Cols: cols, Tri: f.Tri[1:]}, api.Factor{Cols: cols, Tri: append(slices.Clone(f.Tri), 1)}, api.Factor{Cols: cols%6 + 1, Tri: f.Tri})
	}
	return l
}

// drawer hands out floats, the same ones again for each start.
type drawer uint64

func (d *drawer) next() uint64 {
	*d ^= *d << 13
	*d ^= *d >> 7
	*d ^= *d << 17
	return uint64(*d)
}

// float has any fraction and sign; its exponent is at most width away from 0. Some are zeros.
func (d *drawer) float(width int) float64 {
	if d.next()%8 == 0 {
		return math.Copysign(0, float64(int64(d.next())))
	}
	x := math.Ldexp(1+float64(d.next()>>12)/(1<<52), int(d.next()%uint64(2*width+1))-width)
	if d.next()%2 == 0 {
		return -x
	}
	return x
}

func (d *drawer) list(n, width int) []float64 {
	l := make([]float64, n)
	for i := range l {
		l[i] = d.float(width)
	}
	return l
}

func (d *drawer) factor(cols, width int) api.Factor {
	f := api.Factor{Cols: cols, Tri: d.list(size(cols), width), Rows: 1, Turns: 1}
	for i := range cols + 1 {
		at := place(cols, i, i)
		f.Tri[at] = math.Abs(f.Tri[at])
	}
	return f
}

// heightByWords says over again what may be: how many things are on the stack at most, and whether l may be for so many shards.
func heightByWords(l []int, shards int) (int, bool) {
	var stack []string
	most := 0
	for i, n := range l {
		switch {
		case n == -1 && len(stack) >= 2:
			stack = append(stack[:len(stack)-2], "both")
		case n >= 0 && n < shards && !slices.Contains(l[:i], n):
			stack = append(stack, "shard")
		default:
			return 0, false
		}
		most = max(most, len(stack))
	}
	return most, len(stack) == 1
}

// everyList calls ask with each list of at most length numbers of -2 to most.
func everyList(length, most int, ask func(l []int)) {
	var grow func(l []int)
	grow = func(l []int) {
		ask(slices.Clone(l))
		if len(l) == length {
			return
		}
		for n := -2; n <= most; n++ {
			grow(append(l, n))
		}
	}
	grow(nil)
}

func holdCheck(t *testing.T, l []int, shards int, may bool) {
	t.Helper()
	want := api.ErrPlan
	if may {
		want = api.OK
	}
	if err := Check(l, shards); err != want {
		t.Errorf("Check(%v, %d): %d, not %d", l, shards, err, want)
	}
}

// P14.1: each short list, for each number of shards.
func TestCheck(t *testing.T) {
	count := 0
	everyList(6, 3, func(l []int) {
		for shards := range 5 {
			_, may := heightByWords(l, shards)
			holdCheck(t, l, shards, may)
			if may {
				count++
			}
		}
	})
	// One of 4 is 4 plans, two of them 12, three of them 24 by two trees each: so many for 4 shards; and as many of 3, 2 and 1.
	if want := 4 + 12 + 48 + 3 + 6 + 12 + 2 + 2 + 1; count != want {
		t.Errorf("%d plans may be, not %d", count, want)
	}
}

// P14.1: the document's examples, and each of the ways in which a list may not be.
func TestCheckByHand(t *testing.T) {
	for _, c := range []struct {
		l      []int
		shards int
		may    bool
	}{
		{[]int{0, 1, -1, 2, -1}, 3, true}, {[]int{0, 1, 2, -1, -1}, 3, true}, {[]int{0, 1, -1, 2, 3, -1, -1}, 4, true}, {[]int{0}, 1, true}, {[]int{7}, 8, true},
		{[]int{5, 2, -1}, 6, true}, {[]int{5, 2, -1}, 5, false}, {[]int{2, 5, -1}, 5, false},
		{nil, 1, false}, {[]int{}, 8, false}, {nil, 0, false}, {[]int{-1}, 8, false}, {[]int{0, -1}, 8, false}, {[]int{-1, 0}, 8, false}, {[]int{-1, 0, 1}, 8, false}, {[]int{0, -1, 1}, 8, false},
		{[]int{0, 1}, 8, false}, {[]int{0, 1, 2, -1}, 8, false}, {[]int{0, 1, -1, -1}, 8, false}, {[]int{0, 1, -1, -1, 2}, 8, false}, {[]int{0, 1, -1, 2}, 8, false},
		{[]int{0, 0, -1}, 8, false}, {[]int{0, 1, -1, 0, -1}, 8, false}, {[]int{0, 1, -1, 1, -1}, 8, false}, {[]int{0, 1, 2, 1, -1, -1, -1}, 8, false},
		{[]int{0, -2, -1}, 8, false}, {[]int{-2}, 8, false}, {[]int{0, 1, -2}, 8, false}, {[]int{math.MinInt}, 8, false}, {[]int{0, 1, math.MinInt, -1}, 8, false},
		{[]int{0}, 0, false}, {[]int{0}, -1, false}, {[]int{0}, math.MinInt, false}, {[]int{math.MaxInt - 1}, math.MaxInt, true}, {[]int{math.MaxInt}, math.MaxInt, false}, {[]int{1 << 32, 0, -1}, math.MaxInt, true}, {[]int{1 << 32}, 1, false},
	} {
		holdCheck(t, c.l, c.shards, c.may)
	}
}

// P14.1, P14.2: there may be more shards than MaxShard.
func TestLongPlans(t *testing.T) {
	left, right := []int{0}, []int{0}
	for k := 1; k < 5000; k++ {
		left, right = append(left, k, -1), append(right, k)
	}
	right = append(right, slices.Repeat([]int{-1}, 4999)...)
	holdCheck(t, left, 5000, true)
	holdCheck(t, right, 5000, true)
	holdCheck(t, left, 4999, false)
	holdCheck(t, append(right, -1), 5000, false)
	holdCheck(t, append(slices.Clone(left), 2500, -1), 5001, false)
	if Height(left) != 2 || Height(right) != 5000 || len(Order(left)) != 5000 {
		t.Errorf("Height: %d, %d; Order: %v", Height(left), Height(right), Order(left))
	}
}

// P14.2
func TestOrder(t *testing.T) {
	for _, c := range []struct{ l, want []int }{
		{nil, nil}, {[]int{}, nil}, {[]int{-1, -1, -2, math.MinInt}, nil},
		{[]int{2, 0, 1, -1, -1}, []int{2, 0, 1}}, {[]int{0, 1, -1, 2, -1}, []int{0, 1, 2}},
		// Also of lists that may not be.
		{[]int{3, 3, -1, 3}, []int{3, 3, 3}}, {[]int{-1, 5, -7, 4, math.MaxInt, math.MinInt, 0}, []int{5, 4, math.MaxInt, 0}},
	} {
		if l := Order(c.l); !slices.Equal(l, c.want) {
			t.Errorf("Order(%v): %v, not %v", c.l, l, c.want)
		}
	}
}

// P14.2
func TestHeight(t *testing.T) {
	everyList(7, 3, func(l []int) {
		want, may := heightByWords(l, math.MaxInt)
		if !may {
			want = 0
		}
		if n := Height(l); n != want {
			t.Errorf("Height(%v): %d, not %d", l, n, want)
		}
	})
	for _, c := range []struct {
		l    []int
		want int
	}{
		{[]int{0}, 1}, {[]int{9}, 1}, {[]int{math.MaxInt - 1}, 1}, {[]int{math.MaxInt}, 0}, {[]int{0, math.MaxInt, -1}, 0}, {[]int{0, math.MaxInt - 1, -1}, 2},
		{[]int{0, 1, -1, 2, -1}, 2}, {[]int{0, 1, 2, -1, -1}, 3}, {[]int{0, 1, -1, 2, 3, -1, -1}, 3}, {[]int{0, 1, 2, 3, -1, -1, -1}, 4}, {[]int{0, 1, 2, -1, -1, 3, -1}, 3}, {nil, 0}, {[]int{0, 1}, 0}, {[]int{0, 1, 2}, 0}, {[]int{0, 1, -1, 1, -1}, 0},
	} {
		if n := Height(c.l); n != c.want {
			t.Errorf("Height(%v): %d, not %d", c.l, n, c.want)
		}
	}
}

// P14.3: each of them, for each number of shards.
func TestMadePlans(t *testing.T) {
	left := [][]int{nil, {0}, {0, 1, -1}, {0, 1, -1, 2, -1}, {0, 1, -1, 2, -1, 3, -1}, {0, 1, -1, 2, -1, 3, -1, 4, -1}, {0, 1, -1, 2, -1, 3, -1, 4, -1, 5, -1}, {0, 1, -1, 2, -1, 3, -1, 4, -1, 5, -1, 6, -1}, {0, 1, -1, 2, -1, 3, -1, 4, -1, 5, -1, 6, -1, 7, -1}}
	right := [][]int{nil, {0}, {0, 1, -1}, {0, 1, 2, -1, -1}, {0, 1, 2, 3, -1, -1, -1}, {0, 1, 2, 3, 4, -1, -1, -1, -1}, {0, 1, 2, 3, 4, 5, -1, -1, -1, -1, -1}, {0, 1, 2, 3, 4, 5, 6, -1, -1, -1, -1, -1, -1}, {0, 1, 2, 3, 4, 5, 6, 7, -1, -1, -1, -1, -1, -1, -1}}
	even := [][]int{nil, {0}, {0, 1, -1}, {0, 1, -1, 2, -1}, {0, 1, -1, 2, 3, -1, -1}, {0, 1, -1, 2, -1, 3, 4, -1, -1}, {0, 1, -1, 2, -1, 3, 4, -1, 5, -1, -1}, {0, 1, -1, 2, 3, -1, -1, 4, 5, -1, 6, -1, -1}, {0, 1, -1, 2, 3, -1, -1, 4, 5, -1, 6, 7, -1, -1, -1}}
	for n := 0; n <= 8; n++ {
		for i, c := range []struct{ got, want []int }{{Left(n), left[n]}, {Right(n), right[n]}, {Even(n), even[n]}} {
			if !slices.Equal(c.got, c.want) {
				t.Errorf("plan %d of %d: %v, not %v", i, n, c.got, c.want)
			}
			if n > 0 && (Check(c.got, n) != api.OK || Check(c.got, n-1) != api.ErrPlan || len(Order(c.got)) != n || !slices.IsSorted(Order(c.got))) {
				t.Errorf("plan %d of %d: %v", i, n, c.got)
			}
		}
	}
	for _, n := range []int{0, -1, -2, 9, 10, 100, 1 << 40, math.MaxInt, math.MinInt} {
		if len(Left(n)) != 0 || len(Right(n)) != 0 || len(Even(n)) != 0 {
			t.Errorf("plans of %d: %v, %v, %v", n, Left(n), Right(n), Even(n))
		}
	}
}

// runByWords says over again what l, which may be, comes to, from its end on.
func runByWords(l []int, shards []api.Factor) api.Factor {
	at := len(l)
	var last func() api.Factor
	last = func() api.Factor {
		at--
		if l[at] >= 0 {
			return shards[l[at]]
		}
		second := last()
		first := last()
		both, _ := merge.Two(first, second)
		return both
	}
	return last()
}

func (d *drawer) shards(cols, n, width int) []api.Factor {
	l := make([]api.Factor, n)
	for i := range l {
		l[i] = counted(d.factor(cols, width), int(d.next()%25), int(d.next()%3000))
	}
	return l
}

// plan is any plan of some of n shards.
func (d *drawer) plan(n int) []int {
	var l []int
	high := 0
	for _, k := range d.order(n)[:1+d.next()%uint64(n)] {
		for high >= 2 && d.next()%2 == 0 {
			l = append(l, -1)
			high--
		}
		l = append(l, k)
		high++
	}
	return append(l, slices.Repeat([]int{-1}, high-1)...)
}

// order is 0 to n - 1 in any order.
func (d *drawer) order(n int) []int {
	l := make([]int, n)
	for i := range l {
		at := int(d.next() % uint64(i+1))
		l[i] = l[at]
		l[at] = i
	}
	return l
}

// P14.4
func TestRun(t *testing.T) {
	seed := drawer(1)
	for cols := 1; cols <= 6; cols++ {
		for n := 1; n <= 8; n++ {
			for range 10 {
				shards := seed.shards(cols, n, 20)
				for _, l := range [][]int{Left(n), Right(n), Even(n), seed.plan(n), seed.plan(n), seed.plan(n)} {
					f, err := Run(l, shards)
					if want := runByWords(l, shards); err != api.OK || !sameFactor(f, want) {
						t.Errorf("Run(%v, %v): %v, %d, not %v", l, shards, f, err, want)
					}
				}
			}
		}
		// Of one shard: that one, whatever others are.
		for k := range 3 {
			shards := slices.Repeat([]api.Factor{{}}, 3)
			shards[k] = counted(filled(cols), 200, 4096)
			if f, err := Run([]int{k}, shards); err != api.OK || !sameFactor(f, shards[k]) {
				t.Errorf("Run of shard %d: %v, %d", k, f, err)
			}
		}
	}
}

// P14.4: the lower one of both is the first one.
func TestRunTakesTheLowerOneFirst(t *testing.T) {
	seed := drawer(9)
	shards := seed.shards(6, 3, 4)
	one, _ := merge.Two(shards[0], shards[1])
	other, _ := merge.Two(shards[1], shards[0])
	both, _ := merge.Two(shards[1], shards[2])
	low, _ := merge.Two(shards[0], both)
	high, _ := merge.Two(both, shards[0])
	if sameFactor(one, other) || sameFactor(low, high) {
		t.Fatal("which one is first can't be told")
	}
	for i, c := range []struct {
		l    []int
		want api.Factor
	}{{[]int{0, 1, -1}, one}, {[]int{1, 0, -1}, other}, {[]int{0, 1, 2, -1, -1}, low}, {[]int{1, 2, -1, 0, -1}, high}} {
		if f, err := Run(c.l, shards); err != api.OK || !sameFactor(f, c.want) {
			t.Errorf("case %d: Run(%v, ..): %v, %d, not %v", i, c.l, f, err, c.want)
		}
	}
}

func refusesRun(t *testing.T, l []int, shards []api.Factor, want api.Errno) {
	t.Helper()
	if f, err := Run(l, shards); err != want || !isZero(f) {
		t.Errorf("Run(%v, %v): %v, %d, not %d", l, shards, f, err, want)
	}
}

// P14.4: a list that may not be is told ahead of all that is wrong with shards.
func TestRunRefusesPlans(t *testing.T) {
	spoilt := []api.Factor{{}, filled(2), filled(3), counted(filled(2), 200, 4096)}
	for _, shards := range [][]api.Factor{nil, {}, spoilt[:1], spoilt[:2], spoilt, {filled(1), filled(1), filled(1)}} {
		everyList(4, 4, func(l []int) {
			if _, may := heightByWords(l, len(shards)); !may {
				refusesRun(t, l, shards, api.ErrPlan)
			}
		})
		refusesRun(t, []int{math.MaxInt}, shards, api.ErrPlan)
		refusesRun(t, []int{math.MinInt}, shards, api.ErrPlan)
	}
}

// P14.4: the first error on the way, of several; shards that are not laid are not looked at.
func TestRunTellsTheFirstError(t *testing.T) {
	for cols := 1; cols <= 6; cols++ {
		bad, wide, full, large := api.Factor{}, filled(cols%6+1), counted(filled(cols), 200, 4096), changed(filled(cols), 0, 0, greatest)
		good := filled(cols)
		for _, c := range []struct {
			l      []int
			shards []api.Factor
			want   api.Errno
		}{
			{[]int{0}, []api.Factor{bad}, api.ErrArg},
			{[]int{0, 1, -1}, []api.Factor{good, bad}, api.ErrArg},
			{[]int{0, 1, -1}, []api.Factor{bad, good}, api.ErrArg},
			{[]int{0, 1, -1}, []api.Factor{good, wide}, api.ErrSize},
			{[]int{0, 1, -1}, []api.Factor{good, full}, api.ErrFull},
			{[]int{0, 1, -1}, []api.Factor{large, large}, api.ErrRange},
			// A shard is laid ahead of what is merged later, and behind what is merged ahead of it.
			{[]int{0, 1, 2, -1, -1}, []api.Factor{good, wide, bad}, api.ErrArg},
			{[]int{0, 1, -1, 2, -1}, []api.Factor{good, wide, bad}, api.ErrSize},
			{[]int{0, 1, -1, 2, -1}, []api.Factor{good, full, bad}, api.ErrFull},
			{[]int{0, 1, -1, 2, -1}, []api.Factor{large, large, bad}, api.ErrRange},
			{[]int{0, 1, -1, 2, -1}, []api.Factor{large, large, full}, api.ErrRange},
			{[]int{0, 1, 2, -1, -1}, []api.Factor{large, large, full}, api.ErrFull},
			{[]int{0, 1, 2, -1, -1}, []api.Factor{wide, large, large}, api.ErrRange},
			{[]int{0, 1, -1, 2, -1}, []api.Factor{wide, large, large}, api.ErrSize},
			{[]int{2, 1, -1, 0, -1}, []api.Factor{bad, good, wide}, api.ErrSize},
			{[]int{2, 0, -1, 1, -1}, []api.Factor{bad, good, wide}, api.ErrArg},
			{[]int{0, 1, -1, 2, 3, -1, -1}, []api.Factor{good, good, good, wide}, api.ErrSize},
			{[]int{0, 1, -1, 2, 3, -1, -1}, []api.Factor{good, good, wide, wide}, api.ErrSize},
		} {
			refusesRun(t, c.l, c.shards, c.want)
		}
		for _, f := range wrong() {
			refusesRun(t, []int{0, 1, -1}, []api.Factor{good, f}, api.ErrArg)
			if g, err := Run([]int{0, 2, -1}, []api.Factor{good, f, good, f}); err != api.OK || g.Rows != 6 {
				t.Errorf("Run beside %v: %v, %d", f, g, err)
			}
		}
		// So many rotations come of one tree, and not of another one.
		tired := []api.Factor{counted(good, 1, 4096-size(cols)), good, good}
		refusesRun(t, Left(3), tired, api.ErrFull)
		if f, err := Run(Right(3), tired); err != api.OK || f.Turns != 4096 {
			t.Errorf("Run(Right(3), %v): %v, %d", tired, f, err)
		}
	}
}

// P14.4, P14.5: there may be more shards than MaxShard.
func TestManyShards(t *testing.T) {
	shards := slices.Repeat([]api.Factor{counted(filled(1), 1, 0)}, 201)
	l, rows, turns := []int{0}, slices.Repeat([]int{1}, 201), make([]int, 201)
	for k := 1; k < 200; k++ {
		l = append(l, k, -1)
	}
	f, err := Run(l, shards)
	if err != api.OK || f.Rows != 200 || f.Turns != 199*3 {
		t.Errorf("Run of 200 shards: %v, %d", f, err)
	}
	if m, n, err := Counts(l, 1, rows, turns); m != 200 || n != 199*3 || err != api.OK {
		t.Errorf("Counts of 200 shards: %d, %d, %d", m, n, err)
	}
	l = append(l, 200, -1)
	refusesRun(t, l, shards, api.ErrFull)
	holdCounts(t, l, 1, rows, turns, 0, 0, api.ErrFull)
}

func holdCounts(t *testing.T, l []int, cols int, rows, turns []int, m, n int, want api.Errno) {
	t.Helper()
	if a, b, err := Counts(l, cols, rows, turns); a != m || b != n || err != want {
		t.Errorf("Counts(%v, %d, %v, %v): %d, %d, %d, not %d, %d, %d", l, cols, rows, turns, a, b, err, m, n, want)
	}
}

// P14.5: what Run tells of factors, which are small enough, Counts tells without them.
func TestCounts(t *testing.T) {
	seed := drawer(2)
	told := map[api.Errno]int{}
	for cols := 1; cols <= 6; cols++ {
		for range 300 {
			n := 1 + int(seed.next()%8)
			shards := seed.shards(cols, n, 3)
			rows, turns := make([]int, n), make([]int, n)
			for i := range shards {
				shards[i].Rows, shards[i].Turns = int(seed.next()%60), 4000+int(seed.next()%80)
				rows[i], turns[i] = shards[i].Rows, shards[i].Turns
			}
			l := seed.plan(n)
			f, err := Run(l, shards)
			holdCounts(t, l, cols, rows, turns, f.Rows, f.Turns, err)
			told[err]++
		}
	}
	if told[api.OK] < 300 || told[api.ErrFull] < 300 || len(told) != 2 {
		t.Errorf("what was told: %v", told)
	}
}

// P14.5: the numbers, at their edges.
func TestCountsAtTheEdges(t *testing.T) {
	for cols := 1; cols <= 6; cols++ {
		cost := size(cols)
		last := 4096 - cost
		for _, c := range []struct {
			l           []int
			rows, turns []int
			m, n        int
			want        api.Errno
		}{
			{[]int{0}, []int{200}, []int{4096}, 200, 4096, api.OK},
			{[]int{0}, []int{0}, []int{0}, 0, 0, api.OK},
			{[]int{1}, []int{200, 7, 200}, []int{4096, 9, 0}, 7, 9, api.OK},
			{[]int{0, 1, -1}, []int{0, 0}, []int{0, 0}, 0, cost, api.OK},
			{[]int{0, 1, -1}, []int{3, 5}, []int{9, 15}, 8, 15 + cost, api.OK},
			{[]int{0, 1, -1}, []int{3, 5}, []int{15, 9}, 8, 15 + cost, api.OK},
			{[]int{0, 1, -1}, []int{100, 100}, []int{last, last}, 200, 4096, api.OK},
			{[]int{0, 1, -1}, []int{100, 101}, []int{0, 0}, 0, 0, api.ErrFull},
			{[]int{0, 1, -1}, []int{200, 1}, []int{0, 0}, 0, 0, api.ErrFull},
			{[]int{0, 1, -1}, []int{0, 0}, []int{last + 1, 0}, 0, 0, api.ErrFull},
			{[]int{0, 1, -1}, []int{0, 0}, []int{0, last + 1}, 0, 0, api.ErrFull},
			{[]int{0, 1, -1, 2, -1}, []int{0, 0, 0}, []int{0, 0, last}, 0, 4096, api.OK},
			{[]int{0, 1, -1, 2, -1}, []int{0, 0, 0}, []int{last, 0, 0}, 0, 0, api.ErrFull},
			{[]int{0, 1, 2, -1, -1}, []int{0, 0, 0}, []int{last, 0, 0}, 0, 4096, api.OK},
			{[]int{0, 1, 2, -1, -1}, []int{0, 0, 0}, []int{last - cost, last - cost, last - cost}, 0, 4096, api.OK},
			{[]int{0, 1, 2, -1, -1}, []int{0, 0, 0}, []int{0, last - cost + 1, 0}, 0, 0, api.ErrFull},
			{[]int{0, 1, 2, -1, -1}, []int{66, 67, 67}, []int{1, 2, 3}, 200, 3 + 2*cost, api.OK},
			{[]int{0, 1, 2, -1, -1}, []int{67, 67, 67}, []int{1, 2, 3}, 0, 0, api.ErrFull},
			{[]int{0, 1, -1, 2, 3, -1, -1}, []int{1, 2, 3, 4}, []int{1, 2, 3, 4}, 10, 4 + 2*cost, api.OK},
		} {
			holdCounts(t, c.l, cols, c.rows, c.turns, c.m, c.n, c.want)
		}
	}
}

// P14.5: each error, ahead of all that are named later.
func TestCountsRefuses(t *testing.T) {
	plans := [][]int{nil, {0}, {0, 1, -1}, {0, 0, -1}, {5}, {-2}}
	for _, l := range plans {
		for _, cols := range []int{0, -1, 7, 100, math.MaxInt, math.MinInt} {
			holdCounts(t, l, cols, nil, nil, 0, 0, api.ErrArg)
			holdCounts(t, l, cols, []int{1, 2}, []int{3, 4}, 0, 0, api.ErrArg)
			holdCounts(t, l, cols, []int{200, 200}, []int{4096, 4096}, 0, 0, api.ErrArg)
		}
		for cols := 1; cols <= 6; cols++ {
			for _, c := range [][2][]int{{{1}, nil}, {nil, {1}}, {{1, 2}, {1}}, {{1}, {1, 2}}, {{200, 200}, {4096, 4096, 4096}}} {
				holdCounts(t, l, cols, c[0], c[1], 0, 0, api.ErrArg)
			}
			for at := range 3 {
				for _, n := range []int{-1, 201, 4096, math.MaxInt, math.MinInt, 1 << 32} {
					rows := []int{200, 200, 200}
					rows[at] = n
					holdCounts(t, l, cols, rows, []int{4096, 4096, 4096}, 0, 0, api.ErrArg)
				}
				for _, n := range []int{-1, 4097, math.MaxInt, math.MinInt, 1 << 32} {
					turns := []int{4096, 4096, 4096}
					turns[at] = n
					holdCounts(t, l, cols, []int{200, 200, 200}, turns, 0, 0, api.ErrArg)
				}
			}
			if Check(l, 2) != api.OK {
				holdCounts(t, l, cols, []int{200, 200}, []int{4096, 4096}, 0, 0, api.ErrPlan)
			}
			holdCounts(t, l, cols, nil, []int{}, 0, 0, api.ErrPlan)
		}
	}
	for cols := 1; cols <= 6; cols++ {
		holdCounts(t, []int{0, 1, -1, 2, -1}, cols, []int{1, 1}, []int{1, 1}, 0, 0, api.ErrPlan)
		holdCounts(t, []int{0, 1, -1, 2}, cols, []int{200, 200, 1}, []int{1, 1, 1}, 0, 0, api.ErrPlan)
	}
}

// P14.6: what Left comes to is what merge.All does.
func TestLeftIsAll(t *testing.T) {
	seed := drawer(3)
	for cols := 1; cols <= 6; cols++ {
		for n := 1; n <= 8; n++ {
			shards := seed.shards(cols, n, 50)
			if n == 4 {
				shards[2].Rows = 200
			}
			f, err := Run(Left(n), shards)
			want, too := merge.All(shards)
			if err != too || !sameFactor(f, want) {
				t.Errorf("Run(%v, %v): %v, %d, not %v, %d", Left(n), shards, f, err, want, too)
			}
		}
	}
}

// together is the Gram lists of all factors of l, together.
func together(l ...api.Factor) []api.Dyad {
	sum := gram.Zero(l[0].Cols)
	for _, f := range l {
		list, _ := gram.Factor(f)
		sum, _ = gram.Add(sum, list)
	}
	return sum
}

// P14.6: whatever the plan, what comes is near to its shards; so two plans of the same shards are near to one another.
func TestPlansAreNear(t *testing.T) {
	seed := drawer(4)
	for cols := 1; cols <= 6; cols++ {
		for _, width := range []int{0, 5, 60, 399} {
			for n := 1; n <= 8; n++ {
				shards := seed.shards(cols, n, width)
				// No rotations but those of merging: so they alone have to hold what comes.
				for k := range shards {
					shards[k].Turns = 0
				}
				all := together(shards...)
				first, _ := Run(Left(n), shards)
				mixed := append(seed.order(n), slices.Repeat([]int{-1}, n-1)...)
				for _, l := range [][]int{Left(n), Right(n), Even(n), mixed} {
					f, err := Run(l, shards)
					if at, are := near.Check(cols, all, all, together(f), f.Turns); err != api.OK || !are {
						t.Errorf("Run(%v, %v): %v, %d: not near at %d", l, shards, f, err, at)
					}
					if at, are := near.Check(cols, together(first), all, together(f), f.Turns+first.Turns); !are {
						t.Errorf("Run(%v, %v): %v: not near to %v at %d", l, shards, f, first, at)
					}
				}
				l := seed.plan(n)
				var some []api.Factor
				for _, k := range Order(l) {
					some = append(some, shards[k])
				}
				f, err := Run(l, shards)
				if at, are := near.Check(cols, together(some...), together(some...), together(f), f.Turns); err != api.OK || !are {
					t.Errorf("Run(%v, %v): %v, %d: not near at %d", l, shards, f, err, at)
				}
			}
		}
	}
}

// R5: what is handed in is not changed, and no answer shares its memory.
func TestAnswersAreNewMemory(t *testing.T) {
	for cols := 1; cols <= 6; cols++ {
		a, b := filled(cols), changed(filled(cols), 0, 0, 7)
		shards, first, second := []api.Factor{a, b, b}, copied(a), copied(b)
		for _, l := range [][]int{{0}, {1}, {0, 1, -1}, {1, 0, -1}, {0, 1, -1, 2, -1}, {0, 1, 2, -1, -1}} {
			ahead := slices.Clone(l)
			f, err := Run(l, shards)
			if err != api.OK || len(f.Tri) != size(cols) {
				t.Fatalf("Run(%v, %v): %v, %d", l, shards, f, err)
			}
			clear(f.Tri)
			rows, turns := []int{1, 2, 3}, []int{4, 5, 6}
			Counts(l, cols, rows, turns)
			clear(Order(l))
			Check(l, 3)
			Height(l)
			if !slices.Equal(l, ahead) || !slices.Equal(rows, []int{1, 2, 3}) || !slices.Equal(turns, []int{4, 5, 6}) {
				t.Fatalf("what was handed in is changed: %v, %v, %v", l, rows, turns)
			}
			if !sameFactor(a, first) || !sameFactor(b, second) || !sameFactor(shards[0], first) || !sameFactor(shards[1], second) || !sameFactor(shards[2], second) {
				t.Fatalf("Run(%v, ..): what was handed in is changed: %v", l, shards)
			}
		}
	}
	for n := 1; n <= 8; n++ {
		for _, made := range []func(int) []int{Left, Right, Even} {
			l := made(n)
			want := slices.Clone(l)
			clear(l)
			if !slices.Equal(made(n), want) {
				t.Fatalf("plans of %d shards share memory", n)
			}
		}
	}
	l := []int{4, 2, 0}
	clear(Order(l))
	if !slices.Equal(l, []int{4, 2, 0}) {
		t.Fatalf("Order shares what was handed in: %v", l)
	}
}
