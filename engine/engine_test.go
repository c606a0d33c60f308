package engine

import (
	"math"
	"slices"
	"testing"

	"levelling/absorb"
	"levelling/api"
	"levelling/check"
	"levelling/fade"
	"levelling/merge"
	"levelling/plan"
	"levelling/shed"
	"levelling/snap"
	"levelling/solve"
	"levelling/stats"
)

var (
	minusZero = math.Copysign(0, -1)
	infinity  = math.Inf(1)
	// Rows have no numbers but those of these sizes, and 0.
	lowest  = math.Ldexp(1, -400)
	highest = math.Ldexp(1, 400)
	tooLow  = math.Nextafter(lowest, 0)
	tooHigh = math.Nextafter(highest, infinity)
	// A triangle's entries end here.
	greatest = math.Ldexp(1, 420)
	// Nothing is faded by less than this.
	leastBeta = math.Ldexp(1, -20)
)

// notIn has floats that no row may have; never those that nothing is faded by; signed those that no ridge may have.
var (
	notIn  = []float64{tooLow, -tooLow, tooHigh, -tooHigh, math.MaxFloat64, infinity, -infinity, math.NaN()}
	never  = []float64{0, -0.5, math.Nextafter(leastBeta, 0), math.Nextafter(1, 2), infinity, math.NaN()}
	signed = []float64{minusZero, -1, tooLow, tooHigh, infinity, math.NaN()}
)

// outside has numbers of columns, and of shards, of which there is no state.
var outside = []int{0, -1, -2, 9, 10, 100, 1 << 32, math.MaxInt, math.MinInt}

func size(cols int) int { return (cols + 1) * (cols + 2) / 2 }

func sameBits(a, b []float64) bool {
	return slices.EqualFunc(a, b, func(a, b float64) bool { return math.Float64bits(a) == math.Float64bits(b) })
}

func sameFactor(a, b api.Factor) bool {
	return a.Cols == b.Cols && a.Rows == b.Rows && a.Turns == b.Turns && sameBits(a.Tri, b.Tri)
}

func sameState(a, b api.State) bool {
	return a.Cols == b.Cols && slices.EqualFunc(a.Shards, b.Shards, sameFactor)
}

func floatsOf(s api.Stats) []float64 { return []float64{s.Rest, s.Total, s.Var, s.Fit} }

func sameAnswer(a, b api.Answer) bool {
	return a.Turns == b.Turns && a.Bytes == b.Bytes && sameBits(a.Coefs, b.Coefs) && a.Stats.Free == b.Stats.Free && sameBits(floatsOf(a.Stats), floatsOf(b.Stats))
}

func isNothing(a api.Answer) bool { return sameAnswer(a, api.Answer{}) }

// kept is s, of memory of its own.
func kept(s api.State) api.State {
	s.Shards = slices.Clone(s.Shards)
	for k := range s.Shards {
		s.Shards[k].Tri = slices.Clone(s.Shards[k].Tri)
	}
	return s
}

// changed is s with another shard k.
func changed(s api.State, k int, change func(f *api.Factor)) api.State {
	s = kept(s)
	change(&s.Shards[k])
	return s
}

func fresh(t *testing.T, cols, shards int) api.State {
	t.Helper()
	s, err := New(cols, shards)
	if err != api.OK {
		t.Fatalf("New(%d, %d): %d", cols, shards, err)
	}
	return s
}

// done is what comes of things that all have to go, one behind the other.
func done(t *testing.T, s api.State, l ...api.Op) api.State {
	t.Helper()
	for i, o := range l {
		next, _, err := Do(s, o)
		if err != api.OK {
			t.Fatalf("thing %d: %d", i, err)
		}
		s = next
	}
	return s
}

func insertOf(shard int, y float64, x ...float64) api.Op {
	return api.Op{Kind: api.Insert, Shard: shard, Row: api.Row{X: x, Y: y}}
}

func removeOf(shard int, y float64, x ...float64) api.Op {
	return api.Op{Kind: api.Remove, Shard: shard, Row: api.Row{X: x, Y: y}}
}

func closeTo(got []float64, want ...float64) bool {
	return slices.EqualFunc(got, want, func(a, b float64) bool { return math.Abs(a-b) <= 1e-13*(1+math.Abs(b)) })
}

// drawer hands out numbers, the same ones again for each start.
type drawer uint64

func (d *drawer) next() uint64 {
	*d ^= *d << 13
	*d ^= *d >> 7
	*d ^= *d << 17
	return uint64(*d)
}

func (d *drawer) below(n int) int { return int(d.next() % uint64(n)) }

// one is one of l.
func one[T any](d *drawer, l ...T) T { return l[d.below(len(l))] }

// float is one of 53 bits, whose size is 1 to 2 times 2 to the power of exp.
func (d *drawer) float(exp int) float64 {
	return math.Ldexp(1+float64(d.next()>>12)/(1<<52), exp) * one(d, 1.0, -1)
}

// factor has often entries, rows and rotations at the edges of what may be.
func (d *drawer) factor(cols int) api.Factor {
	f := api.Factor{Cols: cols, Rows: one(d, 0, 1, cols, cols+1, 10, 100, 199, 200), Turns: one(d, 0, 7, 100, 4096-2*size(cols), 4096-size(cols), 4095-cols, 4096-cols, 4095, 4096)}
	great := one(d, -3, 0, 0, 4, 30, 418, 419)
	for i := range cols + 1 {
		for j := i; j <= cols; j++ {
			x := d.float(great - d.below(4))
			switch d.below(24) {
			case 0:
				x = one(d, 0, minusZero)
			case 1:
				x = one(d, greatest, -greatest)
			case 2:
				x = one(d, math.SmallestNonzeroFloat64, math.Ldexp(-1, -900), lowest, 1)
			}
			if i == j {
				x = math.Abs(x)
			}
			f.Tri = append(f.Tri, x)
		}
	}
	return f
}

// state has often shards that are new, or not full.
func (d *drawer) state() api.State {
	s := api.State{Cols: 1 + d.below(6)}
	for range 1 + d.below(8) {
		f := d.factor(s.Cols)
		switch d.below(4) {
		case 0:
			f = api.Factor{Cols: s.Cols, Tri: make([]float64, size(s.Cols))}
		case 1:
			f.Rows, f.Turns = 2+d.below(30), d.below(300)
		}
		s.Shards = append(s.Shards, f)
	}
	return s
}

func (d *drawer) number(shards int) int {
	if d.below(12) == 0 {
		return one(d, append(outside[1:], shards)...)
	}
	return d.below(shards)
}

func (d *drawer) row(cols int) api.Row {
	great := one(d, -5, 0, 0, 3, 30, 399)
	r := api.Row{Y: d.float(great)}
	for range cols {
		r.X = append(r.X, one(d, d.float(great), d.float(great), d.float(great), 0, minusZero))
	}
	switch d.below(10) {
	case 0:
		r.X = append(r.X, one(d, 1, infinity))
	case 1:
		r.X[d.below(cols)] = one(d, notIn...)
	case 2:
		r.Y = one(d, notIn...)
	case 3:
		r.X[d.below(cols)] = one(d, lowest, -highest, highest)
	}
	return r
}

// plan is mostly one of some shards that may be.
func (d *drawer) plan(shards int) []int {
	n := 1 + d.below(min(shards, 3))
	l := slices.Clone(one(d, plan.Left, plan.Right, plan.Even)(n))
	by := d.below(shards)
	for i, k := range l {
		if k >= 0 {
			l[i] = (k + by) % shards
		}
	}
	if d.below(10) == 0 {
		l[d.below(len(l))] = one(d, -2, -1, shards, 0, math.MaxInt, math.MinInt)
	}
	return l
}

func (d *drawer) bytes(cols int) string {
	s, _ := snap.Encode(d.factor(one(d, cols, cols, cols, 1+d.below(6))))
	switch d.below(8) {
	case 0:
		return s[:d.below(len(s))]
	case 1:
		return s + "x"
	case 2:
		return s[:2] + "\xff" + s[3:]
	}
	return s
}

// op has all fields, whether its kind names them or not.
func (d *drawer) op(s api.State) api.Op {
	shards := len(s.Shards)
	return api.Op{
		Kind:  one(d, 1, 2, 3, 4, 5, 6, 7, 8, 1, 2, 3, 4, 5, 6, 7, 8, 1, 2, 3, 4, 5, 6, 7, 8, 0, 9, -1, math.MaxInt, math.MinInt),
		Shard: d.number(shards),
		From:  d.number(shards),
		Row:   d.row(s.Cols),
		Beta:  one(d, append(never, 1, 0.5, leastBeta, 0.7, 0.9, 0.1, 0.25, 0.8)...),
		Mu:    one(d, append(signed, 0, 0, 0, 0, 1, 1, 0.3, lowest, highest)...),
		Plan:  d.plan(shards),
		Bytes: d.bytes(s.Cols),
	}
}

// wrongStates has states that may not be: most have a shard that may not be, or has other columns, among others that may.
func wrongStates() []api.State {
	seed := drawer(1)
	l := []api.State{{}, {Cols: 1}, {Cols: 2, Shards: []api.Factor{}}, {Shards: []api.Factor{{}}}, {Cols: 2, Shards: []api.Factor{{}}}, {Cols: 2, Shards: []api.Factor{{Cols: 2}}}}
	for cols := 1; cols <= 6; cols++ {
		s := api.State{Cols: cols}
		for range 8 {
			s.Shards = append(s.Shards, seed.factor(cols))
		}
		nine := kept(s)
		nine.Shards = append(nine.Shards, seed.factor(cols))
		other := kept(s)
		other.Cols = cols%6 + 1
		none := kept(s)
		none.Cols = 0
		l = append(l, nine, other, none)
		for k := range s.Shards {
			for _, change := range wrongs() {
				l = append(l, changed(s, k, change))
			}
			only := api.State{Cols: cols, Shards: kept(s).Shards[k : k+1]}
			l = append(l, changed(only, 0, func(f *api.Factor) { f.Rows = 201 }))
			l = append(l, changed(s, k, func(f *api.Factor) { *f = seed.factor(cols%6 + 1) }))
		}
	}
	for _, cols := range []int{0, -1, 7, math.MaxInt, math.MinInt} {
		tri := make([]float64, 36)
		l = append(l, api.State{Cols: cols, Shards: []api.Factor{{Cols: cols, Tri: tri}}}, api.State{Cols: cols, Shards: []api.Factor{{Cols: cols, Tri: tri[:1]}}}, api.State{Cols: cols, Shards: []api.Factor{{Cols: cols}}})
	}
	return l
}

// wrongs make each of a factor that may be one that may not be.
func wrongs() []func(f *api.Factor) {
	l := []func(f *api.Factor){
		func(f *api.Factor) { *f = api.Factor{} },
		func(f *api.Factor) { f.Cols = 0 },
		func(f *api.Factor) { f.Cols++ },
		func(f *api.Factor) { f.Tri = nil },
		func(f *api.Factor) { f.Tri = f.Tri[1:] },
		func(f *api.Factor) { f.Tri = append(f.Tri, 0) },
		func(f *api.Factor) { f.Tri[0] = minusZero },
		func(f *api.Factor) { f.Tri[len(f.Tri)-1] = -1 },
		func(f *api.Factor) { f.Rows = -1 },
		func(f *api.Factor) { f.Rows = 201 },
		func(f *api.Factor) { f.Turns = -1 },
		func(f *api.Factor) { f.Turns = 4097 },
	}
	for _, x := range []float64{infinity, -infinity, math.NaN(), math.Float64frombits(0xfff8000000000123), math.Nextafter(greatest, infinity)} {
		l = append(l, func(f *api.Factor) { f.Tri[1] = x }, func(f *api.Factor) { f.Tri[len(f.Tri)-1] = x })
	}
	return l
}

// P21.1: all states that are new, and numbers of columns and shards of which there are none.
func TestNew(t *testing.T) {
	for cols := 1; cols <= 6; cols++ {
		for shards := 1; shards <= 8; shards++ {
			s, err := New(cols, shards)
			if err != api.OK || s.Cols != cols || len(s.Shards) != shards || !Check(s) {
				t.Fatalf("New(%d, %d): %v, %d", cols, shards, s, err)
			}
			for k, f := range s.Shards {
				if !sameFactor(f, api.Factor{Cols: cols, Tri: make([]float64, size(cols))}) {
					t.Errorf("New(%d, %d): shard %d is %v", cols, shards, k, f)
				}
				f.Tri[0] = float64(k + 1)
			}
			for k, f := range s.Shards {
				if f.Tri[0] != float64(k+1) {
					t.Errorf("New(%d, %d): shards share memory", cols, shards)
				}
			}
		}
	}
	wrong := func(cols, shards int) {
		if s, err := New(cols, shards); err != api.ErrArg || !sameState(s, api.State{}) {
			t.Errorf("New(%d, %d): %v, %d", cols, shards, s, err)
		}
	}
	for _, n := range outside {
		for m := 1; m <= 6; m++ {
			wrong(n, m)
			wrong(m, n)
		}
		wrong(n, n)
	}
	wrong(7, 1)
	wrong(8, 8)
}

// P21.1: the edges of what may be.
func TestCheck(t *testing.T) {
	seed := drawer(2)
	for cols := 1; cols <= 6; cols++ {
		for shards := 1; shards <= 8; shards++ {
			s := fresh(t, cols, shards)
			for k := range shards {
				s.Shards[k].Rows, s.Shards[k].Turns = 200, 4096
				for i := range s.Shards[k].Tri {
					s.Shards[k].Tri[i] = greatest
				}
				s.Shards[k].Tri[1] = -greatest
			}
			if !Check(s) {
				t.Errorf("Check(%v): false", s)
			}
		}
	}
	for range 500 {
		if s := seed.state(); !Check(s) {
			t.Errorf("Check(%v): false", s)
		}
	}
	for i, s := range wrongStates() {
		if Check(s) {
			t.Errorf("Check of wrong state %d, %v: true", i, s)
		}
	}
}

// P21.1: what a state's shards tell, whether it may be or not.
func TestShape(t *testing.T) {
	seed := drawer(3)
	l := wrongStates()
	for range 500 {
		l = append(l, seed.state())
	}
	for _, s := range l {
		shape := Shape(s)
		if shape.Cols != s.Cols || len(shape.Rows) != len(s.Shards) || len(shape.Turns) != len(s.Shards) {
			t.Fatalf("Shape(%v): %v", s, shape)
		}
		for k, f := range s.Shards {
			if shape.Rows[k] != f.Rows || shape.Turns[k] != f.Turns {
				t.Errorf("Shape(%v): %v", s, shape)
			}
		}
	}
}

// asked has one thing of each kind, of two columns, that is refused for nothing but by the state.
func asked() []api.Op {
	bytes, _ := snap.Encode(api.Factor{Cols: 2, Tri: []float64{2, 1, 5, 4, 8, 3}, Rows: 4, Turns: 9})
	return []api.Op{insertOf(0, 3, 1, 2), removeOf(0, 3, 1, 2), {Kind: api.Fade, Beta: 0.5}, {Kind: api.Merge, From: 1}, {Kind: api.Ship}, {Kind: api.Load, Bytes: bytes}, {Kind: api.Solve, Plan: []int{0}}, {Kind: api.Tell, Plan: []int{0}}}
}

// P21.2: what may not be is told ahead of all that is wrong with what is asked, and is answered as it was.
func TestDoTellsArgFirst(t *testing.T) {
	seed := drawer(4)
	for i, s := range wrongStates() {
		l := append(asked(), api.Op{}, api.Op{Kind: 9}, insertOf(0, 1), removeOf(0, infinity, 1, 2), api.Op{Kind: api.Fade}, api.Op{Kind: api.Load, Bytes: "x"}, api.Op{Kind: api.Solve}, api.Op{Kind: api.Tell})
		if len(s.Shards) > 0 {
			for range 4 {
				l = append(l, seed.op(api.State{Cols: 1 + i%6, Shards: s.Shards}))
			}
		}
		for _, o := range l {
			next, a, err := Do(s, o)
			if err != api.ErrArg || !sameState(next, s) || !isNothing(a) {
				t.Errorf("Do of wrong state %d, %v: %v, %v, %d", i, o, next, a, err)
			}
		}
	}
}

// P21.2: a new shard, and one row behind the other; no other shard is changed.
func TestDoOfAnInsert(t *testing.T) {
	s := done(t, fresh(t, 1, 3), insertOf(1, 6, 3))
	want := fresh(t, 1, 3)
	want.Shards[1] = api.Factor{Cols: 1, Tri: []float64{3, 6, 0}, Rows: 1, Turns: 2}
	if !sameState(s, want) {
		t.Errorf("%v", s)
	}
	next, a, err := Do(s, insertOf(1, 8, 4))
	f := next.Shards[1]
	if err != api.OK || !isNothing(a) || !closeTo(f.Tri, 5, 10, 0) || f.Rows != 2 || f.Turns != 4 {
		t.Errorf("%v, %v, %d", next, a, err)
	}
	if !sameFactor(next.Shards[0], want.Shards[0]) || !sameFactor(next.Shards[2], want.Shards[2]) {
		t.Errorf("other shards: %v", next)
	}
	great := changed(s, 1, func(f *api.Factor) { f.Tri[0] = greatest })
	same, a, err := Do(great, insertOf(1, 0, highest))
	if err != api.ErrRange || !sameState(same, great) || !isNothing(a) {
		t.Errorf("of a shard that is too great: %v, %v, %d", same, a, err)
	}
}

// P21.2: what is taken out, and what can't be.
func TestDoOfARemove(t *testing.T) {
	s := changed(fresh(t, 1, 3), 2, func(f *api.Factor) { *f = api.Factor{Cols: 1, Tri: []float64{5, 1, 2}, Rows: 7, Turns: 20} })
	next, a, err := Do(s, removeOf(2, 1, 3))
	f := next.Shards[2]
	if err != api.OK || !isNothing(a) || !closeTo(f.Tri, 4, 0.5, math.Sqrt(3.75)) || f.Rows != 6 || f.Turns != 22 {
		t.Errorf("%v, %v, %d", next, a, err)
	}
	if !sameState(changed(next, 2, func(f *api.Factor) { *f = s.Shards[2] }), s) {
		t.Errorf("other shards: %v", next)
	}
	for _, x := range []float64{5, -5, 6, highest} {
		next, a, err := Do(s, removeOf(2, 1, x))
		if err != api.ErrShed || !sameState(next, s) || !isNothing(a) {
			t.Errorf("of %v: %v, %v, %d", x, next, a, err)
		}
	}
	if next, _, err := Do(s, removeOf(1, 1, 3)); err != api.ErrFew || !sameState(next, s) {
		t.Errorf("of a new shard: %v, %d", next, err)
	}
	// What is left of a column grows, where less is left of the one that it leans on.
	great := api.State{Cols: 1, Shards: []api.Factor{{Cols: 1, Tri: []float64{2, greatest, greatest}, Rows: 3, Turns: 9}}}
	next, a, err = Do(great, removeOf(0, 0, 1))
	if err != api.ErrRange || !sameState(next, great) || !isNothing(a) {
		t.Errorf("of a shard that is too great: %v, %v, %d", next, a, err)
	}
}

// P21.2: what is there counts less, and one rotation more.
func TestDoOfAFade(t *testing.T) {
	s := done(t, fresh(t, 1, 2), insertOf(0, 6, 3), insertOf(1, 2, 1))
	next, a, err := Do(s, api.Op{Kind: api.Fade, Shard: 0, Beta: 0.5, Mu: 0.25})
	want := changed(s, 0, func(f *api.Factor) { f.Tri, f.Turns = []float64{1.5, 3, 0}, 3 })
	if err != api.OK || !isNothing(a) || !sameState(next, want) {
		t.Errorf("%v, %v, %d", next, a, err)
	}
}

// P21.2: both rows and rotations go to the Shard, and From is new.
func TestDoOfAMerge(t *testing.T) {
	s := fresh(t, 2, 4)
	s.Shards[1] = api.Factor{Cols: 2, Tri: []float64{2, 1, 5, 4, 8, 3}, Rows: 4, Turns: 9}
	s.Shards[3] = api.Factor{Cols: 2, Tri: []float64{0, 0, 0, 0, 0, 4}, Rows: 5, Turns: 15}
	next, a, err := Do(s, api.Op{Kind: api.Merge, Shard: 1, From: 3})
	want := kept(s)
	want.Shards[1] = api.Factor{Cols: 2, Tri: []float64{2, 1, 5, 4, 8, 5}, Rows: 9, Turns: 21}
	want.Shards[3] = fresh(t, 2, 1).Shards[0]
	if err != api.OK || !isNothing(a) || !sameState(next, want) {
		t.Errorf("%v, %v, %d", next, a, err)
	}
	// The other way around, From is the other one, and its lines are the ones that are rotated.
	next, _, err = Do(s, api.Op{Kind: api.Merge, Shard: 3, From: 1})
	if err != api.OK || next.Shards[3].Rows != 9 || next.Shards[3].Turns != 21 || !sameFactor(next.Shards[1], want.Shards[3]) || !closeTo(next.Shards[3].Tri, 2, 1, 5, 4, 8, 5) {
		t.Errorf("%v, %d", next, err)
	}
	great := api.State{Cols: 1, Shards: []api.Factor{{Cols: 1, Tri: []float64{greatest, 0, 0}}, {Cols: 1, Tri: []float64{greatest, 0, 0}}}}
	next, a, err = Do(great, api.Op{Kind: api.Merge, Shard: 0, From: 1})
	if err != api.ErrRange || !sameState(next, great) || !isNothing(a) {
		t.Errorf("of great ones: %v, %v, %d", next, a, err)
	}
}

// P21.2: a shard's bytes, one by one; and the state is as it was.
func TestDoOfAShip(t *testing.T) {
	s := fresh(t, 1, 2)
	s.Shards[1] = api.Factor{Cols: 1, Tri: []float64{1, minusZero, 2}, Rows: 200, Turns: 258}
	next, a, err := Do(s, api.Op{Kind: api.Ship, Shard: 1})
	want := "Q\x01\x00\xc8\x01\x02" + "\x3f\xf0\x00\x00\x00\x00\x00\x00" + "\x80\x00\x00\x00\x00\x00\x00\x00" + "\x40\x00\x00\x00\x00\x00\x00\x00"
	if err != api.OK || !sameAnswer(a, api.Answer{Bytes: want}) || !sameState(next, s) {
		t.Errorf("%v, %v, %d", next, a, err)
	}
	next, a, err = Do(s, api.Op{Kind: api.Load, Shard: 0, Bytes: want})
	if err != api.OK || !isNothing(a) || !sameFactor(next.Shards[0], s.Shards[1]) || !sameFactor(next.Shards[1], s.Shards[1]) {
		t.Errorf("loaded: %v, %v, %d", next, a, err)
	}
}

// P21.2: the errors of bytes that no shard has.
func TestDoOfALoad(t *testing.T) {
	s := done(t, fresh(t, 2, 2), insertOf(0, 3, 1, 2))
	_, a, _ := Do(s, api.Op{Kind: api.Ship})
	other, _ := snap.Encode(fresh(t, 3, 1).Shards[0])
	for _, c := range []struct {
		bytes string
		err   api.Errno
	}{{"", api.ErrForm}, {"Q\x02\x00\x00\x00", api.ErrForm}, {"R" + a.Bytes[1:], api.ErrForm}, {"Q\x07" + a.Bytes[2:], api.ErrForm}, {a.Bytes + "\x00", api.ErrSize}, {a.Bytes[1:], api.ErrForm}, {a.Bytes[:len(a.Bytes)-1], api.ErrSize}, {other, api.ErrSize}, {a.Bytes[:6] + "\x7f\xf0" + a.Bytes[8:], api.ErrRange}, {a.Bytes[:2] + "\x00\xc9" + a.Bytes[4:], api.ErrRange}} {
		for k := range s.Shards {
			next, b, err := Do(s, api.Op{Kind: api.Load, Shard: k, Bytes: c.bytes})
			if err != c.err || !sameState(next, s) || !isNothing(b) {
				t.Errorf("of %q: %v, %v, %d", c.bytes, next, b, err)
			}
		}
	}
}

// P21.2: the answers of what a plan comes to, with a ridge or without; the rotations of both are told, and the state is as it was.
func TestDoOfASolve(t *testing.T) {
	s := fresh(t, 2, 3)
	s.Shards[0] = api.Factor{Cols: 2, Tri: []float64{2, 1, 5, 4, 8, 3}, Rows: 4, Turns: 9}
	s.Shards[2] = api.Factor{Cols: 2, Tri: []float64{0, 0, 0, 3, 6, 1}, Rows: 1, Turns: 30}
	for i, c := range []struct {
		plan  []int
		mu    float64
		coefs []float64
		turns int
	}{
		{[]int{0}, 0, []float64{1.5, 2}, 9},
		{[]int{0, 2, -1}, 0, []float64{1.5, 2}, 36},
		{[]int{2, 1, -1, 0, -1}, 0, []float64{1.5, 2}, 42},
		{[]int{1, 0, 2, -1, -1}, 0, []float64{1.5, 2}, 42},
		{[]int{1}, 1, []float64{0, 0}, 6},
		{[]int{2}, 3, []float64{0, 1}, 36},
		{[]int{2, 1, -1}, 3, []float64{0, 1}, 42},
	} {
		next, a, err := Do(s, api.Op{Kind: api.Solve, Plan: c.plan, Mu: c.mu, Shard: -7, Beta: infinity})
		if err != api.OK || !closeTo(a.Coefs, c.coefs...) || a.Turns != c.turns || a.Bytes != "" || a.Stats != (api.Stats{}) || !sameState(next, s) {
			t.Errorf("case %d: %v, %v, %d", i, next, a, err)
		}
	}
	great := api.State{Cols: 1, Shards: []api.Factor{{Cols: 1, Tri: []float64{greatest, 0, 0}}, {Cols: 1, Tri: []float64{greatest, 0, 0}}, {Cols: 1, Tri: []float64{math.Ldexp(1, -700), greatest, 0}}}}
	for i, c := range []struct {
		s    api.State
		plan []int
		mu   float64
		err  api.Errno
	}{
		{s, []int{1}, 0, api.ErrSing},
		{s, []int{2}, 0, api.ErrSing},
		{s, []int{1, 2, -1}, 0, api.ErrSing},
		{s, nil, 1, api.ErrPlan},
		{s, []int{0, 0, -1}, -1, api.ErrPlan},
		{s, []int{3}, 0, api.ErrPlan},
		{s, []int{1}, -1, api.ErrRange},
		{s, []int{1}, minusZero, api.ErrRange},
		{great, []int{0, 1, -1}, 0, api.ErrRange},
		{great, []int{0}, highest, api.ErrRange},
		{great, []int{2}, 0, api.ErrRange},
	} {
		next, a, err := Do(c.s, api.Op{Kind: api.Solve, Plan: c.plan, Mu: c.mu})
		if err != c.err || !sameState(next, c.s) || !isNothing(a) {
			t.Errorf("wrong case %d: %v, %v, %d", i, next, a, err)
		}
	}
}

// P21.2: what is left over of what a plan comes to; the state is as it was.
func TestDoOfATell(t *testing.T) {
	s := fresh(t, 2, 3)
	s.Shards[0] = api.Factor{Cols: 2, Tri: []float64{2, 1, 5, 4, 8, 3}, Rows: 4, Turns: 9}
	s.Shards[2] = api.Factor{Cols: 2, Tri: []float64{0, 0, 0, 0, 0, 4}, Rows: 1, Turns: 30}
	next, a, err := Do(s, api.Op{Kind: api.Tell, Plan: []int{0}, Mu: -1, Shard: 3})
	rest, total := 9.0, 98.0
	want := api.Stats{Free: 2, Rest: rest, Total: total, Var: 4.5, Fit: 1 - rest/total}
	if err != api.OK || !sameAnswer(a, api.Answer{Turns: 9, Stats: want}) || !sameState(next, s) {
		t.Errorf("%v, %v, %d", next, a, err)
	}
	next, a, err = Do(s, api.Op{Kind: api.Tell, Plan: []int{0, 2, -1}})
	if err != api.OK || a.Turns != 36 || len(a.Coefs) != 0 || a.Bytes != "" || a.Stats.Free != 3 || !closeTo(floatsOf(a.Stats), 25, 114, 25.0/3, 1-25.0/114) || !sameState(next, s) {
		t.Errorf("of two: %v, %v, %d", next, a, err)
	}
	great := api.State{Cols: 1, Shards: []api.Factor{{Cols: 1, Tri: []float64{greatest, 0, 0}, Rows: 2}, {Cols: 1, Tri: []float64{greatest, 0, 0}, Rows: 2}}}
	for i, c := range []struct {
		s    api.State
		plan []int
		err  api.Errno
	}{{s, []int{1}, api.ErrFew}, {s, []int{2}, api.ErrFew}, {s, []int{0, -1}, api.ErrPlan}, {great, []int{1, 0, -1}, api.ErrRange}} {
		next, a, err := Do(c.s, api.Op{Kind: api.Tell, Plan: c.plan})
		if err != c.err || !sameState(next, c.s) || !isNothing(a) {
			t.Errorf("wrong case %d: %v, %v, %d", i, next, a, err)
		}
	}
}

// The examples of the whole that need no script.
func TestExamples(t *testing.T) {
	solved := func(s api.State, mu float64, plan ...int) ([]float64, api.Errno) {
		_, a, err := Do(s, api.Op{Kind: api.Solve, Plan: plan, Mu: mu})
		return a.Coefs, err
	}
	s := done(t, fresh(t, 1, 2), insertOf(1, 6, 3))
	if x, err := solved(s, 0, 0, 1, -1); err != api.OK || !sameBits(x, []float64{2}) {
		t.Errorf("example 1: %v, %d", x, err)
	}
	if x, err := solved(done(t, s, insertOf(1, 8, 4)), 0, 1); err != api.OK || !closeTo(x, 2) {
		t.Errorf("example 2: %v, %d", x, err)
	}
	if _, _, err := Do(s, insertOf(1, 1, math.Ldexp(1, 401))); err != api.ErrRange {
		t.Errorf("example 3: %d", err)
	}
	if _, _, err := Do(s, insertOf(1, 1, math.Ldexp(1, 401), 1)); err != api.ErrSize {
		t.Errorf("example 3: %d", err)
	}
	if next, _, err := Do(s, removeOf(1, 1, 50)); err != api.ErrShed || !sameState(next, s) {
		t.Errorf("example 4: %v, %d", next, err)
	}
	if x, err := solved(done(t, s, api.Op{Kind: api.Fade, Shard: 1, Beta: 0.5}), 0, 1); err != api.OK || !sameBits(x, []float64{2}) {
		t.Errorf("example 5: %v, %d", x, err)
	}
	if x, err := solved(s, 0, 0); err != api.ErrSing {
		t.Errorf("example 7: %v, %d", x, err)
	}
	if x, err := solved(s, 1, 0); err != api.OK || !sameBits(x, []float64{0}) {
		t.Errorf("example 7: %v, %d", x, err)
	}
	if x, err := solved(s, 0, 1, 1, -1); err != api.ErrPlan {
		t.Errorf("example 9: %v, %d", x, err)
	}
}

// first is the error of the first of l that is none of OK.
func first(l ...api.Errno) api.Errno {
	for _, err := range l {
		if err != api.OK {
			return err
		}
	}
	return api.OK
}

// doByWords says P21.2 over again, of states that may be.
func doByWords(s api.State, o api.Op) (api.State, api.Answer, api.Errno) {
	shape := api.Shape{Cols: s.Cols}
	for _, f := range s.Shards {
		shape.Rows, shape.Turns = append(shape.Rows, f.Rows), append(shape.Turns, f.Turns)
	}
	if err := check.Op(shape, o); err != api.OK {
		return s, api.Answer{}, err
	}
	next, a, err := kept(s), api.Answer{}, api.OK
	switch o.Kind {
	case 1:
		next.Shards[o.Shard], err = absorb.Row(s.Shards[o.Shard], o.Row)
	case 2:
		next.Shards[o.Shard], err = shed.Row(s.Shards[o.Shard], o.Row)
	case 3:
		next.Shards[o.Shard], err = fade.Factor(s.Shards[o.Shard], o.Beta)
	case 4:
		next.Shards[o.Shard], err = merge.Two(s.Shards[o.Shard], s.Shards[o.From])
		next.Shards[o.From] = api.Factor{Cols: s.Cols, Tri: make([]float64, size(s.Cols))}
	case 5:
		a.Bytes, _ = snap.Encode(s.Shards[o.Shard])
	case 6:
		next.Shards[o.Shard], err = snap.Decode(o.Bytes)
	case 7:
		f, e1 := plan.Run(o.Plan, s.Shards)
		g, e2 := absorb.Ridge(f, o.Mu)
		x, e3 := solve.Back(g)
		a.Coefs, a.Turns, err = x, g.Turns, first(e1, e2, e3)
	case 8:
		f, e1 := plan.Run(o.Plan, s.Shards)
		left, e2 := stats.Of(f)
		a.Stats, a.Turns, err = left, f.Turns, first(e1, e2)
	}
	if err != api.OK {
		return s, api.Answer{}, err
	}
	return next, a, api.OK
}

// P21.2: any things, asked of any states, by the words over again.
func TestDoByWords(t *testing.T) {
	seed := drawer(5)
	for range 60000 {
		s := seed.state()
		o := seed.op(s)
		next, a, err := Do(s, o)
		wantNext, wantA, wantErr := doByWords(s, o)
		if err != wantErr || !sameAnswer(a, wantA) || !sameState(next, wantNext) {
			t.Fatalf("Do(%v, %v): %v, %v, %d, not %v, %v, %d", s, o, next, a, err, wantNext, wantA, wantErr)
		}
	}
}

// told is a kind, and an error that was told of it.
type told struct {
	kind int
	err  api.Errno
}

// onTheWay has what may be told of things with which check finds nothing wrong.
func onTheWay() map[told]bool {
	l := map[told]bool{{api.Insert, api.ErrRange}: true, {api.Remove, api.ErrShed}: true, {api.Remove, api.ErrRange}: true, {api.Merge, api.ErrRange}: true, {api.Solve, api.ErrRange}: true, {api.Solve, api.ErrSing}: true, {api.Tell, api.ErrRange}: true}
	for kind := api.Insert; kind <= api.Tell; kind++ {
		l[told{kind, api.OK}] = true
	}
	return l
}

func areNumbers(l []float64) bool {
	return !slices.ContainsFunc(l, func(x float64) bool { return math.IsInf(x, 0) || math.IsNaN(x) })
}

// follows holds one thing that was asked against P21.3, and tells what was told on the way.
func follows(t *testing.T, s api.State, o api.Op) (api.State, told) {
	t.Helper()
	next, a, err := Do(s, o)
	before := check.Op(Shape(s), o)
	shape, want := Shape(next), check.Next(Shape(s), o)
	if err != api.OK {
		want = Shape(s)
	}
	switch {
	case !Check(next) || shape.Cols != want.Cols || !slices.Equal(shape.Rows, want.Rows) || !slices.Equal(shape.Turns, want.Turns):
		t.Fatalf("Do(%v, %v): %v", s, o, next)
	case before != api.OK && err != before:
		t.Fatalf("Do(%v, %v): %d, not %d", s, o, err, before)
	case err != api.OK && (!sameState(next, s) || !isNothing(a)):
		t.Fatalf("Do(%v, %v): %v, %v, %d", s, o, next, a, err)
	case !areNumbers(a.Coefs) || !areNumbers(floatsOf(a.Stats)):
		t.Fatalf("Do(%v, %v): %v", s, o, a)
	case o.Kind == api.Solve && o.Mu != 0 && err == api.ErrSing:
		t.Fatalf("Do(%v, %v): singular, with a ridge", s, o)
	case before != api.OK:
		return next, told{}
	}
	return next, told{o.Kind, err}
}

// P21.3: from any states on, whatever is asked; each of what may be told on the way is told, and nothing else.
func TestWhatFollows(t *testing.T) {
	seed := drawer(6)
	may, were := onTheWay(), map[told]bool{{}: true}
	for range 4000 {
		s := seed.state()
		if seed.below(2) == 0 {
			s, _ = New(1+seed.below(6), 1+seed.below(8))
		}
		for range 20 {
			o := seed.op(s)
			next, was := follows(t, s, o)
			if was.kind != 0 && !may[was] {
				t.Fatalf("Do(%v, %v): %d", s, o, was.err)
			}
			were[was] = true
			s = next
		}
	}
	for was := range may {
		if !were[was] {
			t.Errorf("kind %d was never told %d", was.kind, was.err)
		}
	}
}

// P21.3: a shard that is shipped and loaded again is as it was; so is another one that it is loaded as.
func TestShippedAndLoaded(t *testing.T) {
	seed := drawer(7)
	for range 2000 {
		s := seed.state()
		for k := range s.Shards {
			_, a, err := Do(s, api.Op{Kind: api.Ship, Shard: k})
			if err != api.OK {
				t.Fatalf("Ship of %d of %v: %d", k, s, err)
			}
			for to := range s.Shards {
				next := done(t, s, api.Op{Kind: api.Load, Shard: to, Bytes: a.Bytes})
				want := changed(s, to, func(f *api.Factor) { *f = s.Shards[k] })
				if !sameState(next, want) {
					t.Fatalf("%d of %v, loaded as %d: %v", k, s, to, next)
				}
			}
		}
	}
}

// P5: what is forgotten alike, by a power of two, changes no answer.
func TestFadedAlike(t *testing.T) {
	seed := drawer(8)
	for range 500 {
		s := fresh(t, 1+seed.below(6), 1+seed.below(3))
		var fades []api.Op
		for k := range s.Shards {
			for range s.Cols + 2 {
				r := api.Row{Y: seed.float(0)}
				for range s.Cols {
					r.X = append(r.X, seed.float(seed.below(4)))
				}
				s = done(t, s, api.Op{Kind: api.Insert, Shard: k, Row: r})
			}
			fades = append(fades, api.Op{Kind: api.Fade, Shard: k, Beta: 0.125})
		}
		o := api.Op{Kind: api.Solve, Plan: plan.Even(len(s.Shards))}
		_, a, err := Do(s, o)
		_, b, again := Do(done(t, s, fades...), o)
		if err != again || !sameBits(a.Coefs, b.Coefs) || b.Turns != a.Turns+1 {
			t.Fatalf("of %v: %v, %d, and faded: %v, %d", s, a, err, b, again)
		}
	}
}

// R5, R6: what is handed in is not changed, no answer shares its memory, and it is the same again.
func TestAnswersAreNewMemory(t *testing.T) {
	seed := drawer(9)
	for range 5000 {
		s := seed.state()
		o := seed.op(s)
		if seed.below(3) == 0 {
			// Shards that share their memory are still two.
			s.Shards = append(s.Shards[:min(len(s.Shards), 7)], s.Shards[0])
		}
		was, x, steps := kept(s), slices.Clone(o.Row.X), slices.Clone(o.Plan)
		next, a, err := Do(s, o)
		wantNext, wantA := kept(next), a
		wantA.Coefs = slices.Clone(a.Coefs)
		for k := range next.Shards {
			for i := range next.Shards[k].Tri {
				next.Shards[k].Tri[i] = float64(k)
			}
		}
		for k := range next.Shards {
			if slices.ContainsFunc(next.Shards[k].Tri, func(x float64) bool { return x != float64(k) }) {
				t.Fatalf("Do(%v, %v): two shards share memory", was, o)
			}
			next.Shards[k].Rows = -5
		}
		for i := range a.Coefs {
			a.Coefs[i] = -6
		}
		Check(s)
		shape := Shape(s)
		shape.Rows[0], shape.Turns[0] = -7, -8
		if !sameState(s, was) || !sameBits(o.Row.X, x) || !slices.Equal(o.Plan, steps) {
			t.Fatalf("%v was changed by %v", was, o)
		}
		againNext, againA, againErr := Do(s, o)
		if !sameState(againNext, wantNext) || !sameAnswer(againA, wantA) || againErr != err {
			t.Fatalf("asked again, Do(%v, %v) is not the same", s, o)
		}
	}
}
