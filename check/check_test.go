package check

import (
	"errors"
	"math"
	"slices"
	"testing"

	"levelling/api"
	"levelling/plan"
	"levelling/snap"
	"levelling/tri"
)

var (
	minusZero = math.Copysign(0, -1)
	infinity  = math.Inf(1)
	// Rows have no numbers but those of these sizes, and 0.
	lowest  = math.Ldexp(1, -400)
	highest = math.Ldexp(1, 400)
	tooLow  = math.Nextafter(lowest, 0)
	tooHigh = math.Nextafter(highest, infinity)
	// Nothing is faded by less than this.
	leastBeta = math.Ldexp(1, -20)
)

// notIn has floats that no row may have; never those that nothing is faded by; signed those that no ridge may have.
var (
	notIn  = []float64{tooLow, -tooLow, tooHigh, -tooHigh, math.SmallestNonzeroFloat64, math.MaxFloat64, infinity, -infinity, math.NaN()}
	never  = []float64{0, minusZero, -0.5, -1, math.Nextafter(leastBeta, 0), math.Nextafter(1, 2), 2, infinity, -infinity, math.NaN()}
	signed = []float64{minusZero, -1, -lowest, -highest, tooLow, tooHigh, infinity, -infinity, math.NaN(), math.Copysign(math.NaN(), -1)}
)

// nowhere has numbers that no shard has.
var nowhere = []int{-1, -2, 8, 9, 1 << 32, math.MaxInt, math.MinInt}

func size(cols int) int { return (cols + 1) * (cols + 2) / 2 }

func sameShape(a, b api.Shape) bool {
	return a.Cols == b.Cols && slices.Equal(a.Rows, b.Rows) && slices.Equal(a.Turns, b.Turns)
}

func kept(s api.Shape) api.Shape {
	return api.Shape{Cols: s.Cols, Rows: slices.Clone(s.Rows), Turns: slices.Clone(s.Turns)}
}

// with is s, whose shard k has so many rows and rotations.
func with(s api.Shape, k, rows, turns int) api.Shape {
	s = kept(s)
	s.Rows[k], s.Turns[k] = rows, turns
	return s
}

// bytesOf is a factor of zeros, encoded.
func bytesOf(cols, rows, turns int) string {
	f, _ := tri.New(cols)
	f.Rows, f.Turns = rows, turns
	s, is := snap.Encode(f)
	if !is {
		panic("no such factor")
	}
	return s
}

// wrongShapes has shapes that may not be.
func wrongShapes() []api.Shape {
	l := []api.Shape{{}, {Cols: 1}, {Rows: []int{0}, Turns: []int{0}}}
	for _, cols := range []int{0, -1, 7, 8, math.MaxInt, math.MinInt} {
		l = append(l, api.Shape{Cols: cols, Rows: []int{0, 0}, Turns: []int{0, 0}})
	}
	for cols := 1; cols <= 6; cols++ {
		l = append(l, api.Shape{Cols: cols, Rows: make([]int, 9), Turns: make([]int, 9)}, api.Shape{Cols: cols, Rows: []int{1, 1}, Turns: []int{1}}, api.Shape{Cols: cols, Rows: []int{1}, Turns: []int{1, 1}}, api.Shape{Cols: cols, Turns: []int{1}}, api.Shape{Cols: cols, Rows: []int{1}})
		for k := range 8 {
			s := api.Shape{Cols: cols, Rows: make([]int, 8), Turns: make([]int, 8)}
			for _, n := range [][2]int{{-1, 0}, {201, 0}, {0, -1}, {0, 4097}, {math.MaxInt, 0}, {math.MinInt, 0}, {0, math.MaxInt}, {0, math.MinInt}} {
				l = append(l, with(s, k, n[0], n[1]))
			}
		}
	}
	return l
}

// drawer hands out numbers, the same ones again for each start.
type drawer uint64

func (d *drawer) next() uint64 {
	*d ^= *d << 13
	*d ^= *d >> 7
	*d ^= *d << 17
	return uint64(*d)
}

func (d *drawer) below(n int) int { return int(d.next() % uint64(n)) }

// one is one of l.
func one[T any](d *drawer, l ...T) T { return l[d.below(len(l))] }

// shape has often shards at the edges of what may be.
func (d *drawer) shape() api.Shape {
	s := api.Shape{Cols: 1 + d.below(6)}
	for range 1 + d.below(8) {
		s.Rows = append(s.Rows, one(d, 0, 0, 1, s.Cols, s.Cols+1, 50, 100, 150, 199, 200))
		s.Turns = append(s.Turns, one(d, 0, 5, 4096-2*size(s.Cols), 4096-size(s.Cols), 4097-size(s.Cols), 4096-s.Cols*(s.Cols+1), 4097-s.Cols*(s.Cols+1), 4095-s.Cols, 4096-s.Cols, 4095, 4096, d.below(4097), d.below(4097)))
	}
	return s
}

// number is mostly that of a shard.
func (d *drawer) number(shards int) int {
	if d.below(12) == 0 {
		return one(d, append(nowhere, shards)...)
	}
	return d.below(shards)
}

func (d *drawer) row(cols int) api.Row {
	r := api.Row{Y: one(d, 0, minusZero, 1, -2.5, lowest, -highest)}
	for range cols {
		r.X = append(r.X, one(d, 0, minusZero, 3, -0.1, -lowest, highest))
	}
	switch d.below(6) {
	case 0:
		r.X = append(r.X, one(d, 1, infinity))
	case 1:
		r.X[d.below(cols)] = one(d, notIn...)
	case 2:
		r.Y = one(d, notIn...)
	}
	return r
}

// plan is mostly one of some shards that may be.
func (d *drawer) plan(shards int) []int {
	n := 1 + d.below(min(shards, 3))
	l := slices.Clone(one(d, plan.Left, plan.Right, plan.Even)(n))
	by := d.below(shards)
	for i, k := range l {
		if k >= 0 {
			l[i] = (k + by) % shards
		}
	}
	if d.below(8) == 0 {
		l[d.below(len(l))] = one(d, -2, -1, shards, 0, math.MaxInt, math.MinInt)
	}
	return l
}

func (d *drawer) bytes(cols int) string {
	s := bytesOf(one(d, cols, cols, cols, 1+d.below(6)), d.below(201), d.below(4097))
	switch d.below(8) {
	case 0:
		return s[:d.below(len(s))]
	case 1:
		return s + "x"
	case 2:
		return s[:2] + "\xff" + s[3:]
	case 3:
		return "q" + s[1:]
	}
	return s
}

// op has all fields, whether its kind names them or not.
func (d *drawer) op(s api.Shape) api.Op {
	shards := len(s.Rows)
	return api.Op{
		Kind:  one(d, 1, 2, 3, 4, 5, 6, 7, 8, 1, 2, 3, 4, 5, 6, 7, 8, 0, 9, -1, math.MaxInt, math.MinInt),
		Shard: d.number(shards),
		From:  d.number(shards),
		Row:   d.row(s.Cols),
		Beta:  one(d, append(never, 1, 0.5, leastBeta, 0.7, 0.9, 0.1, 0.25, 1, 1)...),
		Mu:    one(d, append(signed, 0, 0, 0, 0, 1, 1, 1, 0.3, lowest, highest)...),
		Plan:  d.plan(shards),
		Bytes: d.bytes(s.Cols),
	}
}

// mayByWords says over again what may be.
func mayByWords(s api.Shape) bool {
	if s.Cols < 1 || s.Cols > 6 || len(s.Rows) < 1 || len(s.Rows) > 8 || len(s.Turns) != len(s.Rows) {
		return false
	}
	return slices.Min(s.Rows) >= 0 && slices.Max(s.Rows) <= 200 && slices.Min(s.Turns) >= 0 && slices.Max(s.Turns) <= 4096
}

func inByWords(x float64) bool {
	return x == 0 || math.Abs(x) >= lowest && math.Abs(x) <= highest
}

// holds is an error, and whether it applies.
type holds struct {
	is  bool
	err api.Errno
}

// first is the error of the first of l that holds.
func first(l ...holds) api.Errno {
	for _, h := range l {
		if h.is {
			return h.err
		}
	}
	return api.OK
}

// opByWords says P20.2 over again.
func opByWords(s api.Shape, o api.Op) api.Errno {
	if !mayByWords(s) || o.Kind < 1 || o.Kind > 8 {
		return api.ErrArg
	}
	if o.Kind <= 6 && (o.Shard < 0 || o.Shard >= len(s.Rows)) {
		return api.ErrArg
	}
	rows, turns := 0, 0
	if o.Kind <= 6 {
		rows, turns = s.Rows[o.Shard], s.Turns[o.Shard]
	}
	wide := len(o.Row.X) != s.Cols
	wild := !inByWords(o.Row.Y) || slices.ContainsFunc(o.Row.X, func(x float64) bool { return !inByWords(x) })
	told, spent, unplanned := plan.Counts(o.Plan, s.Cols, s.Rows, s.Turns)
	switch o.Kind {
	case 1:
		return first(holds{wide, api.ErrSize}, holds{wild, api.ErrRange}, holds{rows == 200 || turns+s.Cols+1 > 4096, api.ErrFull})
	case 2:
		return first(holds{wide, api.ErrSize}, holds{wild, api.ErrRange}, holds{rows == 0, api.ErrFew}, holds{turns+s.Cols+1 > 4096, api.ErrFull})
	case 3:
		return first(holds{!(o.Beta >= leastBeta && o.Beta <= 1), api.ErrFade}, holds{turns == 4096, api.ErrFull})
	case 4:
		if o.From < 0 || o.From >= len(s.Rows) || o.From == o.Shard {
			return api.ErrArg
		}
		more := max(turns, s.Turns[o.From])
		return first(holds{rows+s.Rows[o.From] > 200 || size(s.Cols)+more > 4096, api.ErrFull})
	case 6:
		f, err := snap.Decode(o.Bytes)
		return first(holds{err != api.OK, err}, holds{f.Cols != s.Cols, api.ErrSize})
	case 7:
		ridge := s.Cols * (s.Cols + 1)
		return first(holds{unplanned != api.OK, unplanned}, holds{!inByWords(o.Mu) || math.Signbit(o.Mu), api.ErrRange}, holds{o.Mu != 0 && ridge+spent > 4096, api.ErrFull})
	case 8:
		return first(holds{unplanned != api.OK, unplanned}, holds{!(told > s.Cols), api.ErrFew})
	}
	return api.OK
}

// nextByWords says P20.3 over again.
func nextByWords(s api.Shape, o api.Op) api.Shape {
	s = kept(s)
	if opByWords(s, o) != api.OK {
		return s
	}
	k := o.Shard
	switch o.Kind {
	case 1:
		return with(s, k, s.Rows[k]+1, s.Turns[k]+s.Cols+1)
	case 2:
		return with(s, k, s.Rows[k]-1, s.Turns[k]+s.Cols+1)
	case 3:
		return with(s, k, s.Rows[k], s.Turns[k]+1)
	case 4:
		both := with(s, k, s.Rows[k]+s.Rows[o.From], max(s.Turns[k], s.Turns[o.From])+size(s.Cols))
		return with(both, o.From, 0, 0)
	case 6:
		f, _ := snap.Decode(o.Bytes)
		return with(s, k, f.Rows, f.Turns)
	}
	return s
}

// P20.1: the edges of what may be.
func TestMay(t *testing.T) {
	for cols := 1; cols <= 6; cols++ {
		for shards := 1; shards <= 8; shards++ {
			s := api.Shape{Cols: cols, Rows: make([]int, shards), Turns: make([]int, shards)}
			if !May(s) || !May(with(s, shards-1, 200, 4096)) || !May(with(s, 0, 200, 0)) || !May(with(s, 0, 0, 4096)) {
				t.Errorf("May(%v): false", s)
			}
		}
	}
	for _, s := range wrongShapes() {
		if May(s) {
			t.Errorf("May(%v): true", s)
		}
	}
}

// asked has one thing of each kind, of two columns, shards 0 and 1 of four, that is refused for nothing.
func asked() []api.Op {
	r := api.Row{X: []float64{1, 2}, Y: 3}
	return []api.Op{{Kind: api.Insert, Row: r}, {Kind: api.Remove, Row: r}, {Kind: api.Fade, Beta: 0.5}, {Kind: api.Merge, From: 1}, {Kind: api.Ship}, {Kind: api.Load, Bytes: bytesOf(2, 7, 8)}, {Kind: api.Solve, Plan: []int{0, 1, -1}, Mu: 2}, {Kind: api.Tell, Plan: []int{1, 0, -1}}}
}

func four() api.Shape {
	return api.Shape{Cols: 2, Rows: []int{5, 6, 0, 200}, Turns: []int{50, 40, 0, 4096}}
}

// P20.2: what may not be, and kinds that there are not, are told ahead of all else.
func TestOpTellsArgFirst(t *testing.T) {
	for i, o := range asked() {
		if err := Op(four(), o); err != api.OK {
			t.Errorf("thing %d: %d", i, err)
		}
		wild := o
		wild.Row, wild.Beta, wild.Mu, wild.Plan, wild.Bytes = api.Row{}, 0, -1, nil, ""
		for _, s := range wrongShapes() {
			if err := Op(s, o); err != api.ErrArg {
				t.Errorf("Op(%v, %v): %d", s, o, err)
			}
			if err := Op(s, wild); err != api.ErrArg {
				t.Errorf("Op(%v, %v): %d", s, wild, err)
			}
		}
		for _, kind := range []int{0, -1, 9, 10, math.MaxInt, math.MinInt} {
			o.Kind = kind
			if err := Op(four(), o); err != api.ErrArg {
				t.Errorf("kind %d: %d", kind, err)
			}
		}
	}
}

// P20.2: the number of a shard is told ahead of what is wrong by the kind; a Solve and a Tell do not ask for one.
func TestOpAsksForAShard(t *testing.T) {
	for _, o := range asked() {
		wild := api.Op{Kind: o.Kind, From: o.From, Beta: 2, Row: api.Row{X: []float64{infinity}}}
		for _, k := range append(nowhere, 4, 5) {
			o.Shard, wild.Shard = k, k
			want, too := api.ErrArg, api.ErrArg
			if o.Kind == api.Solve || o.Kind == api.Tell {
				want, too = api.OK, api.ErrPlan
			}
			if err := Op(four(), o); err != want {
				t.Errorf("Op(%v): %d", o, err)
			}
			if err := Op(four(), wild); err != too {
				t.Errorf("Op(%v): %d", wild, err)
			}
		}
	}
}

// P20.2: fields that a kind does not name are not looked at.
func TestOpLooksAtWhatItsKindNames(t *testing.T) {
	for _, o := range asked() {
		wild := api.Op{Kind: o.Kind, Shard: math.MinInt, From: math.MaxInt, Row: api.Row{X: []float64{math.NaN()}, Y: infinity}, Beta: math.NaN(), Mu: math.NaN(), Plan: []int{-9}, Bytes: "?"}
		switch o.Kind {
		case api.Insert, api.Remove:
			wild.Shard, wild.Row = o.Shard, o.Row
		case api.Fade:
			wild.Shard, wild.Beta = o.Shard, o.Beta
		case api.Merge:
			wild.Shard, wild.From = o.Shard, o.From
		case api.Ship:
			wild.Shard = o.Shard
		case api.Load:
			wild.Shard, wild.Bytes = o.Shard, o.Bytes
		case api.Solve:
			wild.Plan, wild.Mu = o.Plan, o.Mu
		case api.Tell:
			wild.Plan = o.Plan
		}
		if err := Op(four(), wild); err != api.OK {
			t.Errorf("Op(%v): %d", wild, err)
		}
		if s := Next(four(), wild); !sameShape(s, nextByWords(four(), o)) {
			t.Errorf("Next(%v): %v", wild, s)
		}
	}
}

// P20.2: the document's example, and each error of a row ahead of those that are named later.
func TestOpOfARow(t *testing.T) {
	for cols := 1; cols <= 6; cols++ {
		s := api.Shape{Cols: cols, Rows: []int{0, 200, 9, 0, 200, 199, 1}, Turns: []int{0, 0, 4096 - cols, 4096, 4096, 4095 - cols, 4095 - cols}}
		good := api.Row{X: slices.Repeat([]float64{highest}, cols), Y: -lowest}
		zeros := api.Row{X: slices.Repeat([]float64{minusZero}, cols)}
		want := map[int][]api.Errno{
			api.Insert: {api.OK, api.ErrFull, api.ErrFull, api.ErrFull, api.ErrFull, api.OK, api.OK},
			api.Remove: {api.ErrFew, api.OK, api.ErrFull, api.ErrFew, api.ErrFull, api.OK, api.OK},
		}
		for kind, l := range want {
			for k := range s.Rows {
				o := api.Op{Kind: kind, Shard: k}
				for _, x := range [][]float64{nil, good.X[1:], append(slices.Clone(good.X), 1), slices.Repeat([]float64{math.NaN()}, cols+1)} {
					o.Row = api.Row{X: x, Y: infinity}
					if err := Op(s, o); err != api.ErrSize {
						t.Errorf("Op(%v, %v): %d", s, o, err)
					}
				}
				for _, x := range notIn {
					o.Row = api.Row{X: good.X, Y: x}
					if err := Op(s, o); err != api.ErrRange {
						t.Errorf("Op(%v, %v): %d", s, o, err)
					}
					for at := range cols {
						o.Row = api.Row{X: slices.Clone(good.X), Y: 1}
						o.Row.X[at] = x
						if err := Op(s, o); err != api.ErrRange {
							t.Errorf("Op(%v, %v): %d", s, o, err)
						}
					}
				}
				for _, o.Row = range []api.Row{good, zeros} {
					if err := Op(s, o); err != l[k] {
						t.Errorf("Op(%v, %v): %d, not %d", s, o, err, l[k])
					}
				}
			}
		}
	}
}

// P20.2: what may not be faded by is told ahead of too many rotations.
func TestOpOfAFade(t *testing.T) {
	for cols := 1; cols <= 6; cols++ {
		s := api.Shape{Cols: cols, Rows: []int{0, 200, 0, 200}, Turns: []int{0, 4095, 4096, 4096}}
		for k := range s.Rows {
			for _, beta := range never {
				if err := Op(s, api.Op{Kind: api.Fade, Shard: k, Beta: beta}); err != api.ErrFade {
					t.Errorf("shard %d, %v: %d", k, beta, err)
				}
			}
			for _, beta := range []float64{1, leastBeta, 0.3, math.Nextafter(1, 0)} {
				want := []api.Errno{api.OK, api.OK, api.ErrFull, api.ErrFull}[k]
				if err := Op(s, api.Op{Kind: api.Fade, Shard: k, Beta: beta}); err != want {
					t.Errorf("shard %d, %v: %d", k, beta, err)
				}
			}
		}
	}
}

// P20.2: which shards can be merged, and the edges of the rows and rotations that both have.
func TestOpOfAMerge(t *testing.T) {
	for cols := 1; cols <= 6; cols++ {
		last := 4096 - size(cols)
		s := api.Shape{Cols: cols, Rows: []int{100, 100, 101, 200, 0, 0, 0}, Turns: []int{0, 9, 0, 0, last, last + 1, 4096}}
		for a := range s.Rows {
			for _, b := range append(nowhere, 7) {
				if err := Op(s, api.Op{Kind: api.Merge, Shard: a, From: b}); err != api.ErrArg {
					t.Errorf("Merge of %d and %d: %d", a, b, err)
				}
			}
			for b := range s.Rows {
				want := api.OK
				switch {
				case a == b:
					want = api.ErrArg
				case a >= 5 || b >= 5 || a == 3 && b < 3 || b == 3 && a < 3 || a < 3 && b < 3 && a+b > 1:
					want = api.ErrFull
				}
				if err := Op(s, api.Op{Kind: api.Merge, Shard: a, From: b}); err != want {
					t.Errorf("Merge of %d and %d: %d, not %d", a, b, err, want)
				}
			}
		}
	}
}

// P20.2: nothing is wrong with a Ship, whatever the shard has.
func TestOpOfAShip(t *testing.T) {
	s := api.Shape{Cols: 3, Rows: []int{0, 200}, Turns: []int{0, 4096}}
	for k := range s.Rows {
		if err := Op(s, api.Op{Kind: api.Ship, Shard: k}); err != api.OK {
			t.Errorf("Ship of %d: %d", k, err)
		}
	}
}

// P20.2: the errors of snap.Decode, and then other columns.
func TestOpOfALoad(t *testing.T) {
	for cols := 1; cols <= 6; cols++ {
		s := api.Shape{Cols: cols, Rows: []int{0, 200}, Turns: []int{0, 4096}}
		other := cols%6 + 1
		for _, c := range []struct {
			bytes string
			want  api.Errno
		}{
			{bytesOf(cols, 0, 0), api.OK},
			{bytesOf(cols, 200, 4096), api.OK},
			{bytesOf(other, 3, 4), api.ErrSize},
			{"", api.ErrForm},
			{bytesOf(cols, 3, 4)[1:], api.ErrForm},
			{bytesOf(cols, 3, 4) + "x", api.ErrSize},
			{bytesOf(cols, 3, 4)[:2] + "\x00\xc9" + bytesOf(cols, 3, 4)[4:], api.ErrRange},
			{bytesOf(cols, 3, 4)[:4] + "\x10\x01" + bytesOf(cols, 3, 4)[6:], api.ErrRange},
			// Decode's error is told ahead of other columns.
			{bytesOf(other, 3, 4)[:2] + "\xff" + bytesOf(other, 3, 4)[3:], api.ErrRange},
		} {
			for k := range s.Rows {
				if err := Op(s, api.Op{Kind: api.Load, Shard: k, Bytes: c.bytes}); err != c.want {
					t.Errorf("Load of %q: %d, not %d", c.bytes, err, c.want)
				}
			}
		}
	}
}

// P20.2: a Solve's plan, its ridge, and the rotations that a ridge asks for.
func TestOpOfASolve(t *testing.T) {
	for cols := 1; cols <= 6; cols++ {
		ridge, cost := cols*(cols+1), size(cols)
		s := api.Shape{Cols: cols, Rows: []int{0, 200, 0, 0, 1, 0}, Turns: []int{0, 0, 4096 - ridge, 4097 - ridge, 4096, 4096 - ridge - cost}}
		for i, c := range []struct {
			plan []int
			mu   float64
			want api.Errno
		}{
			{nil, 0, api.ErrPlan}, {nil, -1, api.ErrPlan}, {[]int{0, 0, -1}, 0, api.ErrPlan}, {[]int{6}, 0, api.ErrPlan}, {[]int{0, 1}, 0, api.ErrPlan},
			{[]int{1, 4, -1}, -1, api.ErrFull}, {[]int{4, 0, -1}, math.NaN(), api.ErrFull},
			{[]int{0}, 0, api.OK}, {[]int{0}, 1, api.OK}, {[]int{1}, highest, api.OK}, {[]int{0, 1, -1}, lowest, api.OK},
			{[]int{2}, 1, api.OK}, {[]int{3}, 1, api.ErrFull}, {[]int{3}, lowest, api.ErrFull}, {[]int{3}, 0, api.OK}, {[]int{4}, 0, api.OK}, {[]int{4}, 1, api.ErrFull},
			{[]int{5, 0, -1}, 1, api.OK}, {[]int{5, 0, -1, 2, -1}, 1, api.ErrFull},
		} {
			if err := Op(s, api.Op{Kind: api.Solve, Shard: -7, Plan: c.plan, Mu: c.mu}); err != c.want {
				t.Errorf("%d columns, case %d: %d, not %d", cols, i, err, c.want)
			}
		}
		for _, mu := range signed {
			for k := range s.Rows {
				if err := Op(s, api.Op{Kind: api.Solve, Plan: []int{k}, Mu: mu}); err != api.ErrRange {
					t.Errorf("shard %d, a ridge of %v: %d", k, mu, err)
				}
			}
		}
	}
}

// P20.2: a Tell's plan, and whether there are more rows than columns.
func TestOpOfATell(t *testing.T) {
	for cols := 1; cols <= 6; cols++ {
		s := api.Shape{Cols: cols, Rows: []int{cols, cols + 1, 0, 1, 200}, Turns: []int{0, 4096, 0, 0, 0}}
		for i, c := range []struct {
			plan []int
			want api.Errno
		}{
			{nil, api.ErrPlan}, {[]int{5}, api.ErrPlan}, {[]int{0, 0, -1}, api.ErrPlan},
			{[]int{0, 1, -1}, api.ErrFull}, {[]int{2, 1, -1}, api.ErrFull}, {[]int{3, 4, -1}, api.ErrFull},
			{[]int{0}, api.ErrFew}, {[]int{2}, api.ErrFew}, {[]int{0, 2, -1}, api.ErrFew},
			{[]int{1}, api.OK}, {[]int{0, 3, -1}, api.OK}, {[]int{4}, api.OK}, {[]int{2, 0, 3, -1, -1}, api.OK},
		} {
			if err := Op(s, api.Op{Kind: api.Tell, Shard: -7, Plan: c.plan, Mu: -1}); err != c.want {
				t.Errorf("%d columns, case %d: %d, not %d", cols, i, err, c.want)
			}
		}
	}
}

// P20.2, P20.3: any shapes and things; of each kind each error that it may tell is told often.
func TestOpAndNextByWords(t *testing.T) {
	seed := drawer(1)
	told := map[[2]int]int{}
	for range 200000 {
		s := seed.shape()
		o := seed.op(s)
		want := opByWords(s, o)
		if err := Op(s, o); err != want {
			t.Fatalf("Op(%v, %v): %d, not %d", s, o, err, want)
		}
		if n := Next(s, o); !sameShape(n, nextByWords(s, o)) || !May(n) {
			t.Fatalf("Next(%v, %v): %v, not %v", s, o, n, nextByWords(s, o))
		}
		told[[2]int{o.Kind, int(want)}]++
	}
	for kind, l := range map[int][]api.Errno{
		api.Insert: {api.OK, api.ErrArg, api.ErrSize, api.ErrRange, api.ErrFull},
		api.Remove: {api.OK, api.ErrArg, api.ErrSize, api.ErrRange, api.ErrFew, api.ErrFull},
		api.Fade:   {api.OK, api.ErrArg, api.ErrFade, api.ErrFull},
		api.Merge:  {api.OK, api.ErrArg, api.ErrFull},
		api.Ship:   {api.OK, api.ErrArg},
		api.Load:   {api.OK, api.ErrArg, api.ErrForm, api.ErrSize, api.ErrRange},
		api.Solve:  {api.OK, api.ErrPlan, api.ErrRange, api.ErrFull},
		api.Tell:   {api.OK, api.ErrPlan, api.ErrFew, api.ErrFull},
	} {
		for _, err := range l {
			if n := told[[2]int{kind, int(err)}]; n < 100 {
				t.Errorf("kind %d told %d only %d times", kind, err, n)
			}
		}
	}
}

// P20.3: numbers by hand.
func TestNext(t *testing.T) {
	r := api.Row{X: []float64{1, 2}, Y: 3}
	s := api.Shape{Cols: 2, Rows: []int{5, 6, 0}, Turns: []int{50, 40, 0}}
	for i, c := range []struct {
		o           api.Op
		rows, turns []int
	}{
		{api.Op{Kind: api.Insert, Shard: 2, Row: r}, []int{5, 6, 1}, []int{50, 40, 3}},
		{api.Op{Kind: api.Remove, Shard: 1, Row: r}, []int{5, 5, 0}, []int{50, 43, 0}},
		{api.Op{Kind: api.Fade, Shard: 0, Beta: 1}, []int{5, 6, 0}, []int{51, 40, 0}},
		{api.Op{Kind: api.Merge, Shard: 0, From: 1}, []int{11, 0, 0}, []int{56, 0, 0}},
		{api.Op{Kind: api.Merge, Shard: 1, From: 0}, []int{0, 11, 0}, []int{0, 56, 0}},
		{api.Op{Kind: api.Merge, Shard: 2, From: 1}, []int{5, 0, 6}, []int{50, 0, 46}},
		{api.Op{Kind: api.Merge, Shard: 1, From: 2}, []int{5, 6, 0}, []int{50, 46, 0}},
		{api.Op{Kind: api.Ship, Shard: 0}, s.Rows, s.Turns},
		{api.Op{Kind: api.Load, Shard: 1, Bytes: bytesOf(2, 200, 4096)}, []int{5, 200, 0}, []int{50, 4096, 0}},
		{api.Op{Kind: api.Load, Shard: 0, Bytes: bytesOf(2, 0, 0)}, []int{0, 6, 0}, []int{0, 40, 0}},
		{api.Op{Kind: api.Solve, Plan: []int{0, 1, -1}, Mu: 1}, s.Rows, s.Turns},
		{api.Op{Kind: api.Tell, Plan: []int{0, 1, -1}}, s.Rows, s.Turns},
		{api.Op{Kind: api.Remove, Shard: 2, Row: r}, s.Rows, s.Turns},
		{api.Op{Kind: api.Load, Shard: 1, Bytes: bytesOf(1, 200, 4096)}, s.Rows, s.Turns},
		{api.Op{}, s.Rows, s.Turns},
	} {
		if n := Next(s, c.o); !sameShape(n, api.Shape{Cols: 2, Rows: c.rows, Turns: c.turns}) {
			t.Errorf("case %d: %v", i, n)
		}
	}
}

// P20.3: a shape that may not be stays as it is, whatever is asked.
func TestNextOfWhatMayNotBe(t *testing.T) {
	for _, s := range wrongShapes() {
		for _, o := range append(asked(), api.Op{}, api.Op{Kind: api.Merge, Shard: 8, From: 9}) {
			if n := Next(s, o); !sameShape(n, s) {
				t.Errorf("Next(%v, %v): %v", s, o, n)
			}
		}
	}
}

// P20.4: numbers by hand: what did not go is not counted, and what has no entry in went did.
func TestTable(t *testing.T) {
	r := api.Row{X: []float64{1}, Y: 3}
	s := api.Shape{Cols: 1, Rows: []int{0}, Turns: []int{4090}}
	insert, remove := api.Op{Kind: api.Insert, Row: r}, api.Op{Kind: api.Remove, Row: r}
	l := []api.Op{remove, insert, insert, remove, {Kind: 9}, insert, {Kind: api.Load, Bytes: bytesOf(1, 0, 0)}, insert}
	for i, c := range []struct {
		went []bool
		want []api.Errno
	}{
		{nil, []api.Errno{api.ErrFew, api.OK, api.OK, api.OK, api.ErrArg, api.ErrFull, api.OK, api.OK}},
		{[]bool{}, []api.Errno{api.ErrFew, api.OK, api.OK, api.OK, api.ErrArg, api.ErrFull, api.OK, api.OK}},
		{slices.Repeat([]bool{true}, 20), []api.Errno{api.ErrFew, api.OK, api.OK, api.OK, api.ErrArg, api.ErrFull, api.OK, api.OK}},
		{[]bool{false}, []api.Errno{api.ErrFew, api.OK, api.OK, api.OK, api.ErrArg, api.ErrFull, api.OK, api.OK}},
		{[]bool{true, false}, []api.Errno{api.ErrFew, api.OK, api.OK, api.OK, api.ErrArg, api.OK, api.OK, api.OK}},
		{[]bool{true, false, false}, []api.Errno{api.ErrFew, api.OK, api.OK, api.ErrFew, api.ErrArg, api.OK, api.OK, api.OK}},
		{[]bool{true, true, true, true, true, true, false}, []api.Errno{api.ErrFew, api.OK, api.OK, api.OK, api.ErrArg, api.ErrFull, api.OK, api.ErrFull}},
		{make([]bool, 20), []api.Errno{api.ErrFew, api.OK, api.OK, api.ErrFew, api.ErrArg, api.OK, api.OK, api.OK}},
	} {
		if got := Table(s, l, c.went); !slices.Equal(got, c.want) {
			t.Errorf("case %d: %v, not %v", i, got, c.want)
		}
	}
	for _, l := range [][]api.Op{nil, {}} {
		if got := Table(s, l, []bool{true, false}); len(got) != 0 {
			t.Errorf("Table of nothing: %v", got)
		}
	}
	for _, s := range wrongShapes() {
		if got := Table(s, l, nil); !slices.Equal(got, slices.Repeat([]api.Errno{api.ErrArg}, len(l))) {
			t.Errorf("Table(%v): %v", s, got)
		}
	}
}

// P20.4, P20.5: any things one behind the other: what comes may be, and what is refused changes nothing.
func TestTableByWords(t *testing.T) {
	seed := drawer(2)
	for range 2000 {
		s := seed.shape()
		var l []api.Op
		var went []bool
		for range seed.below(40) {
			l = append(l, seed.op(s))
			went = append(went, seed.below(4) > 0)
		}
		went = went[:len(went)-seed.below(len(went)+1)]
		var want []api.Errno
		now := s
		for i, o := range l {
			err := opByWords(now, o)
			want = append(want, err)
			next := Next(now, o)
			if !May(next) || err != api.OK && !sameShape(next, now) {
				t.Fatalf("Next(%v, %v): %v", now, o, next)
			}
			if err == api.OK && !(i < len(went) && !went[i]) {
				now = nextByWords(now, o)
			}
		}
		if got := Table(s, l, went); !slices.Equal(got, want) {
			t.Fatalf("Table(%v, %v, %v): %v, not %v", s, l, went, got, want)
		}
	}
}

// What is wrong is told with the part that it is wrong with, however deep it is wrapped.
func TestRefusals(t *testing.T) {
	s := four()
	for _, c := range []struct {
		o    api.Op
		text string
	}{
		{api.Op{}, "kind: error 1"},
		{api.Op{Kind: api.Ship, Shard: 4}, "shard: error 1"},
		{api.Op{Kind: api.Insert}, "row: error 3"},
		{api.Op{Kind: api.Fade}, "beta: error 12"},
		{api.Op{Kind: api.Merge, From: 3}, "rows: error 6"},
		{api.Op{Kind: api.Fade, Shard: 3, Beta: 1}, "rotations: error 6"},
		{api.Op{Kind: api.Load}, "bytes: error 9"},
		{api.Op{Kind: api.Solve}, "plan: error 10"},
	} {
		err := wrong(s, c.o)
		var part refusal
		if err == nil || err.Error() != c.text || !errors.As(err, &part) {
			t.Errorf("%v: %v, not %s", c.o, err, c.text)
		}
		if number(refusal{"all", refusal{"some", err}}) != Op(s, c.o) {
			t.Errorf("%v: wrapped again, it is %d", c.o, number(refusal{"all", err}))
		}
	}
	if err := wrong(s, api.Op{Kind: api.Ship}); err != nil || number(err) != api.OK {
		t.Errorf("of nothing wrong: %v", err)
	}
}

// R5: what is handed in is not changed, and no answer shares its memory.
func TestAnswersAreNewMemory(t *testing.T) {
	seed := drawer(3)
	for range 3000 {
		s := seed.shape()
		o := seed.op(s)
		was, x, steps := kept(s), slices.Clone(o.Row.X), slices.Clone(o.Plan)
		n := Next(s, o)
		again := kept(n)
		for k := range n.Rows {
			n.Rows[k], n.Turns[k] = -5, -6
		}
		went := []bool{true, false, true}
		table := Table(s, []api.Op{o, o, o, o}, went)
		Op(s, o)
		if !sameShape(s, was) || !slices.Equal(o.Plan, steps) || !slices.EqualFunc(o.Row.X, x, func(a, b float64) bool { return math.Float64bits(a) == math.Float64bits(b) }) || !slices.Equal(went, []bool{true, false, true}) {
			t.Fatalf("%v was changed by %v", was, o)
		}
		if !sameShape(Next(s, o), again) || !slices.Equal(Table(s, []api.Op{o, o, o, o}, went), table) {
			t.Fatalf("asked again, Next(%v, %v) is not the same", s, o)
		}
	}
}
