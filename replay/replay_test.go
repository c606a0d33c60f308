package replay

import (
	"math"
	"slices"
	"testing"

	"levelling/api"
	"levelling/check"
	"levelling/engine"
	"levelling/plan"
	"levelling/snap"
)

var (
	minusZero = math.Copysign(0, -1)
	infinity  = math.Inf(1)
	highest   = math.Ldexp(1, 400)
	// A triangle's entries end here.
	greatest = math.Ldexp(1, 420)
)

func sameBits(a, b []float64) bool {
	return slices.EqualFunc(a, b, func(a, b float64) bool { return math.Float64bits(a) == math.Float64bits(b) })
}

func sameState(a, b api.State) bool {
	return a.Cols == b.Cols && slices.EqualFunc(a.Shards, b.Shards, func(a, b api.Factor) bool {
		return a.Cols == b.Cols && a.Rows == b.Rows && a.Turns == b.Turns && sameBits(a.Tri, b.Tri)
	})
}

func floatsOf(s api.Stats) []float64 { return []float64{s.Rest, s.Total, s.Var, s.Fit} }

func sameDone(a, b api.Done) bool {
	p, q := a.Answer, b.Answer
	return a.Err == b.Err && p.Turns == q.Turns && p.Bytes == q.Bytes && sameBits(p.Coefs, q.Coefs) && p.Stats.Free == q.Stats.Free && sameBits(floatsOf(p.Stats), floatsOf(q.Stats))
}

func allSame(a, b []api.Done) bool { return slices.EqualFunc(a, b, sameDone) }

func sameOp(a, b api.Op) bool {
	floats := sameBits([]float64{a.Row.Y, a.Beta, a.Mu}, []float64{b.Row.Y, b.Beta, b.Mu}) && sameBits(a.Row.X, b.Row.X)
	return floats && a.Kind == b.Kind && a.Shard == b.Shard && a.From == b.From && a.Bytes == b.Bytes && slices.Equal(a.Plan, b.Plan)
}

func sameOps(a, b []api.Op) bool { return slices.EqualFunc(a, b, sameOp) }

// kept is s, of memory of its own.
func kept(s api.State) api.State {
	s.Shards = slices.Clone(s.Shards)
	for k := range s.Shards {
		s.Shards[k].Tri = slices.Clone(s.Shards[k].Tri)
	}
	return s
}

// keptOps is l, of memory of its own.
func keptOps(l []api.Op) []api.Op {
	l = slices.Clone(l)
	for i := range l {
		l[i].Row.X, l[i].Plan = slices.Clone(l[i].Row.X), slices.Clone(l[i].Plan)
	}
	return l
}

func errsOf(d []api.Done) []api.Errno {
	var l []api.Errno
	for _, x := range d {
		l = append(l, x.Err)
	}
	return l
}

func insertOf(shard int, y float64, x ...float64) api.Op {
	return api.Op{Kind: api.Insert, Shard: shard, Row: api.Row{X: x, Y: y}}
}

func fresh(t *testing.T, cols, shards int) api.State {
	t.Helper()
	s, err := engine.New(cols, shards)
	if err != api.OK {
		t.Fatalf("New(%d, %d): %d", cols, shards, err)
	}
	return s
}

// wrongStates has states that may not be, of as many shards as there may be at most, but for those that have more or none.
func wrongStates() []api.State {
	wrong := func(shards int, change func(f *api.Factor)) api.State {
		s := api.State{Cols: 1}
		for range shards {
			s.Shards = append(s.Shards, api.Factor{Cols: 1, Tri: []float64{3, 6, 1}, Rows: 1, Turns: 2})
		}
		change(&s.Shards[shards-1])
		return s
	}
	return []api.State{
		{},
		{Cols: 1},
		{Cols: 7, Shards: []api.Factor{{Cols: 7, Tri: make([]float64, 36)}}},
		wrong(9, func(f *api.Factor) {}),
		wrong(8, func(f *api.Factor) { f.Cols = 2 }),
		wrong(8, func(f *api.Factor) { f.Rows = 201 }),
		wrong(8, func(f *api.Factor) { f.Turns = -1 }),
		wrong(8, func(f *api.Factor) { f.Tri[0] = minusZero }),
		wrong(8, func(f *api.Factor) { f.Tri[1] = math.Float64frombits(0xfff8000000000123) }),
		wrong(8, func(f *api.Factor) { f.Tri = nil }),
	}
}

// drawer hands out numbers, the same ones again for each start.
type drawer uint64

func (d *drawer) next() uint64 {
	*d ^= *d << 13
	*d ^= *d >> 7
	*d ^= *d << 17
	return uint64(*d)
}

func (d *drawer) below(n int) int { return int(d.next() % uint64(n)) }

// one is one of l.
func one[T any](d *drawer, l ...T) T { return l[d.below(len(l))] }

// float is one of 53 bits, whose size is 1 to 2 times 2 to the power of exp.
func (d *drawer) float(exp int) float64 {
	return math.Ldexp(1+float64(d.next()>>12)/(1<<52), exp) * one(d, 1.0, -1)
}

// state has shards that are new, that have few rows or that are nearly full, and now and then such as are too great to have more.
func (d *drawer) state() api.State {
	s := api.State{Cols: 1 + d.below(6)}
	size := (s.Cols + 1) * (s.Cols + 2) / 2
	for range 1 + d.below(8) {
		f := api.Factor{Cols: s.Cols, Tri: make([]float64, size)}
		if d.below(3) > 0 {
			f.Rows, f.Turns = one(d, 1, s.Cols+2, 20, 198, 200), one(d, 3, 100, 4000, 4090, 4096)
			great := one(d, 0, 3, 3, 419)
			for i := range f.Tri {
				f.Tri[i] = math.Abs(d.float(great))
			}
			f.Tri[1] = one(d, minusZero, -f.Tri[1], f.Tri[1])
		}
		s.Shards = append(s.Shards, f)
	}
	return s
}

// things are some of each kind, of which most may go.
func (d *drawer) things(s api.State, n int) []api.Op {
	var l []api.Op
	shards := len(s.Shards)
	number := func() int {
		if d.below(20) == 0 {
			return one(d, -1, 8, math.MaxInt, math.MinInt)
		}
		return d.below(shards)
	}
	for range n {
		o := api.Op{Kind: one(d, 1, 1, 1, 1, 2, 2, 3, 4, 4, 5, 6, 7, 7, 8, 9*d.below(2)), Shard: number(), From: number(), Beta: one(d, 0.5, 0.9, 1, 2), Mu: one(d, 0, 0, 1, 0.1, -1)}
		o.Row.Y = d.float(0)
		for range s.Cols + one(d, 0, 0, 0, 0, 0, 0, 0, 1, -1) {
			o.Row.X = append(o.Row.X, d.float(one(d, 0, 1, 1, 2, 399, 401)*one(d, 1, 0, 0)))
		}
		if len(l) > 0 && d.below(2) == 0 {
			// A row that came in may be taken out again.
			before := l[d.below(len(l))]
			o.Row, o.Shard = before.Row, before.Shard
		}
		first := d.below(shards)
		o.Plan = one(d, []int{first}, []int{first, (first + 1) % shards, -1}, []int{first, -1}, plan.Left(shards), plan.Even(shards))
		o.Bytes, _ = snap.Encode(s.Shards[d.below(shards)])
		l = append(l, o)
	}
	return keptOps(l)
}

// playByWords says P22.1 over again, and P22.4, if a Merge is shipped.
func playByWords(s api.State, l []api.Op, shipped bool) (api.State, []api.Done) {
	var all []api.Done
	for _, o := range l {
		if shipped && o.Kind == api.Merge {
			for _, n := range []int{o.From, o.Shard} {
				if again, err := againByWords(s, n); err == api.OK {
					s = again
				}
			}
		}
		next, a, err := engine.Do(s, o)
		all = append(all, api.Done{Answer: a, Err: err})
		s = next
	}
	return s, all
}

// againByWords says P22.3 over again.
func againByWords(s api.State, n int) (api.State, api.Errno) {
	_, a, err := engine.Do(s, api.Op{Kind: api.Ship, Shard: n})
	if err != api.OK {
		return s, err
	}
	next, _, err := engine.Do(s, api.Op{Kind: api.Load, Shard: n, Bytes: a.Bytes})
	if err != api.OK {
		return s, err
	}
	return next, api.OK
}

// P22.1: a row that is not there is not taken out, and what is asked behind it is done all the same.
func TestPlay(t *testing.T) {
	out := api.Op{Kind: api.Remove, Row: api.Row{X: []float64{50}, Y: 1}}
	l := []api.Op{insertOf(0, 6, 3), out, {}, {Kind: api.Solve, Plan: []int{0}}, {Kind: api.Fade, Beta: 0.5}, insertOf(1, 1, 1, 1), {Kind: api.Ship}, {Kind: api.Merge, Shard: 1, From: 0}, {Kind: api.Tell, Plan: []int{1}}, {Kind: api.Solve, Plan: []int{0}}, insertOf(1, 0, 0), {Kind: api.Tell, Plan: []int{1}}}
	s, d := Play(fresh(t, 1, 2), l)
	want := api.State{Cols: 1, Shards: []api.Factor{{Cols: 1, Tri: []float64{0, 0, 0}}, {Cols: 1, Tri: []float64{1.5, 3, 0}, Rows: 2, Turns: 8}}}
	if !sameState(s, want) {
		t.Errorf("%v", s)
	}
	bytes, _ := snap.Encode(api.Factor{Cols: 1, Tri: []float64{1.5, 3, 0}, Rows: 1, Turns: 3})
	done := []api.Done{{}, {Err: api.ErrShed}, {Err: api.ErrArg}, {Answer: api.Answer{Coefs: []float64{2}, Turns: 2}}, {}, {Err: api.ErrSize}, {Answer: api.Answer{Bytes: bytes}}, {}, {Err: api.ErrFew}, {Err: api.ErrSing}, {}, {Answer: api.Answer{Turns: 8, Stats: api.Stats{Free: 1, Total: 9, Fit: 1}}}}
	if !allSame(d, done) {
		t.Errorf("%v", d)
	}
}

// P22.1: without things, all is as it was; what may not be stays so, and each thing is told so.
func TestPlayOfNothingAndOfWrongStates(t *testing.T) {
	l := []api.Op{insertOf(0, 6, 3), {}, {Kind: api.Solve, Plan: []int{0}}, {Kind: api.Merge, Shard: 1, From: 0}, {Kind: api.Ship}}
	for _, play := range []func(api.State, []api.Op) (api.State, []api.Done){Play, Shipped} {
		s, _ := Play(fresh(t, 1, 2), l)
		for _, none := range [][]api.Op{nil, {}} {
			if u, d := play(s, none); !sameState(u, s) || len(d) != 0 {
				t.Errorf("of nothing: %v, %v", u, d)
			}
		}
		for i, s := range wrongStates() {
			u, d := play(s, l)
			if want := slices.Repeat([]api.Done{{Err: api.ErrArg}}, len(l)); !sameState(u, s) || !allSame(d, want) {
				t.Errorf("of wrong state %d: %v, %v", i, u, d)
			}
			if u, d := play(s, nil); !sameState(u, s) || len(d) != 0 {
				t.Errorf("of nothing and wrong state %d: %v, %v", i, u, d)
			}
		}
	}
}

// P22.2: as many things as both lists have, whatever was told of the others.
func TestWent(t *testing.T) {
	var l []api.Op
	var d []api.Done
	for err := api.OK; err <= api.ErrNear; err++ {
		l = append(l, api.Op{Kind: int(err), Shard: -1, From: 7, Row: api.Row{X: []float64{minusZero, infinity}, Y: 2}, Beta: 3, Mu: minusZero, Plan: []int{1, -1}, Bytes: "x"}, api.Op{Kind: 100 + int(err)})
		d = append(d, api.Done{Err: err, Answer: api.Answer{Turns: 1}}, api.Done{})
	}
	want := l[:1:1]
	for i := range l {
		if i%2 == 1 {
			want = append(want, l[i])
		}
	}
	if w := Went(l, d); !sameOps(w, want) {
		t.Errorf("%v", w)
	}
	if w := Went(l, append(d, api.Done{}, api.Done{})); !sameOps(w, want) {
		t.Errorf("of fewer things: %v", w)
	}
	if w := Went(l[:6], d); !sameOps(w, want[:4]) {
		t.Errorf("of six things: %v", w)
	}
	for n := range len(d) + 1 {
		if w := Went(l, d[:n]); !sameOps(w, want[:min(n, 1)+max(0, n/2)]) {
			t.Errorf("of %d that were done: %v", n, w)
		}
	}
	wrong := slices.Repeat([]api.Done{{Err: api.ErrShed}, {Err: -1}, {Err: 99}}, 4)
	for _, c := range []struct {
		l []api.Op
		d []api.Done
	}{{nil, nil}, {l, nil}, {nil, d}, {l, []api.Done{}}, {l, wrong}} {
		if w := Went(c.l, c.d); len(w) != 0 {
			t.Errorf("of %v, %v: %v", c.l, c.d, w)
		}
	}
}

// P22.3: each shard of a state as it was, with all its bits; numbers that no shard has, and states that may not be.
func TestAgain(t *testing.T) {
	seed := drawer(1)
	for range 500 {
		s := seed.state()
		for n := range s.Shards {
			if u, err := Again(s, n); err != api.OK || !sameState(u, s) {
				t.Fatalf("Again(%v, %d): %v, %d", s, n, u, err)
			}
		}
		for _, n := range []int{-1, len(s.Shards), 8, 9, math.MaxInt, math.MinInt} {
			if u, err := Again(s, n); err != api.ErrArg || !sameState(u, s) {
				t.Fatalf("Again(%v, %d): %v, %d", s, n, u, err)
			}
		}
	}
	for i, s := range wrongStates() {
		for _, n := range []int{0, 1, -1, 8} {
			if u, err := Again(s, n); err != api.ErrArg || !sameState(u, s) {
				t.Errorf("of wrong state %d, %d: %v, %d", i, n, u, err)
			}
		}
	}
}

// P22.4: what is shipped ahead of a Merge is told nowhere, whether both shards are there or not.
func TestShipped(t *testing.T) {
	l := []api.Op{insertOf(0, 6, 3), insertOf(1, 8, 4), {Kind: api.Merge, Shard: 1, From: 2}, {Kind: api.Merge, Shard: 1, From: 1}, {Kind: api.Merge, Shard: 3, From: 1}, {Kind: api.Merge, Shard: 1, From: -1}, {Kind: api.Merge, Shard: 1, From: 0}, {Kind: api.Ship, Shard: 1}, {Kind: api.Solve, Plan: []int{1}}}
	s, d := Shipped(fresh(t, 1, 3), l)
	u, c := Play(fresh(t, 1, 3), l)
	if !sameState(s, u) || !allSame(d, c) || len(d[7].Answer.Bytes) != 30 || len(d[8].Answer.Coefs) != 1 {
		t.Errorf("%v, %v, not %v, %v", s, d, u, c)
	}
	if want := []api.Errno{0, 0, 0, api.ErrArg, api.ErrArg, api.ErrArg, 0, 0, 0}; !slices.Equal(errsOf(d), want) {
		t.Errorf("%v", errsOf(d))
	}
	if rows := engine.Shape(s).Rows; !slices.Equal(rows, []int{0, 2, 0}) {
		t.Errorf("%v", s)
	}
}

// P22.5: one thing for each plan, in order, of which none is done to the state behind the one ahead of it.
func TestSolves(t *testing.T) {
	s := api.State{Cols: 1, Shards: []api.Factor{{Cols: 1, Tri: []float64{2, 6, 0}, Rows: 1, Turns: 2}, {Cols: 1, Tri: []float64{0, 0, 0}}, {Cols: 1, Tri: []float64{greatest, 0, 0}}, {Cols: 1, Tri: []float64{greatest, 1, 0}, Turns: 4096}}}
	plans := [][]int{{0}, {1}, {0, 1, -1}, nil, {0, 0, -1}, {4}, {2, 0, -1}, {3, 1, -1}, {3}}
	solved := func(turns int, coefs ...float64) api.Done {
		return api.Done{Answer: api.Answer{Coefs: coefs, Turns: turns}}
	}
	want := []api.Done{solved(2, 3), {Err: api.ErrSing}, solved(5, 3), {Err: api.ErrPlan}, {Err: api.ErrPlan}, {Err: api.ErrPlan}, solved(5, math.Ldexp(12, -840)), {Err: api.ErrFull}, solved(4096, 1/greatest)}
	if d := Solves(s, plans, 0); !allSame(d, want) {
		t.Errorf("%v, not %v", d, want)
	}
	// With a ridge there are Cols (Cols + 1) rotations more.
	for _, mu := range []float64{2, 0.25, highest} {
		d := Solves(s, plans, mu)
		great := api.OK
		if mu == highest {
			great = api.ErrRange
		}
		if want := []api.Errno{0, 0, 0, api.ErrPlan, api.ErrPlan, api.ErrPlan, great, api.ErrFull, api.ErrFull}; !slices.Equal(errsOf(d), want) || d[0].Answer.Turns != 4 || d[1].Answer.Turns != 2 || d[2].Answer.Turns != 7 {
			t.Errorf("with a ridge of %v: %v", mu, d)
		}
		if mu == 2 && math.Abs(d[0].Answer.Coefs[0]-1.5) > 1e-15 {
			t.Errorf("with a ridge of %v: %v", mu, d)
		}
	}
	for _, mu := range []float64{minusZero, -1, infinity, math.NaN()} {
		d := Solves(s, plans, mu)
		if want := []api.Errno{2, 2, 2, 10, 10, 10, 2, 6, 2}; !slices.Equal(errsOf(d), want) {
			t.Errorf("with a ridge of %v: %v", mu, d)
		}
	}
	for _, none := range [][][]int{nil, {}} {
		if d := Solves(s, none, 1); len(d) != 0 {
			t.Errorf("of no plans: %v", d)
		}
	}
	for i, s := range wrongStates() {
		if d := Solves(s, plans[:3], 1); !allSame(d, slices.Repeat([]api.Done{{Err: api.ErrArg}}, 3)) {
			t.Errorf("of wrong state %d: %v", i, d)
		}
	}
}

// P22.1 to P22.5: any things, asked of any states, by the words over again.
func TestByWords(t *testing.T) {
	seed := drawer(2)
	for range 1500 {
		s := seed.state()
		l := seed.things(s, seed.below(30))
		u, d := Play(s, l)
		if wantU, wantD := playByWords(s, l, false); !sameState(u, wantU) || !allSame(d, wantD) {
			t.Fatalf("Play(%v, %v): %v, %v", s, l, u, d)
		}
		u, d = Shipped(s, l)
		if wantU, wantD := playByWords(s, l, true); !sameState(u, wantU) || !allSame(d, wantD) {
			t.Fatalf("Shipped(%v, %v): %v, %v", s, l, u, d)
		}
		var plans [][]int
		var want []api.Done
		mu := one(&seed, 0, 0, 1, 0.3, -1)
		for _, o := range l {
			plans = append(plans, o.Plan)
			_, a, err := engine.Do(s, api.Op{Kind: api.Solve, Plan: o.Plan, Mu: mu})
			want = append(want, api.Done{Answer: a, Err: err})
		}
		if d := Solves(s, plans, mu); !allSame(d, want) {
			t.Fatalf("Solves(%v, %v, %v): %v", s, plans, mu, d)
		}
	}
}

// P22.6: only what went comes to the same; what is shipped changes no later bit; what is told wrong is what check.Table tells.
func TestWhatFollows(t *testing.T) {
	seed := drawer(3)
	seen := map[api.Errno]bool{}
	for range 1500 {
		s := seed.state()
		l := seed.things(s, 40)
		u, d := Play(s, l)
		w := Went(l, d)
		v, c := Play(s, w)
		var answered []api.Done
		var went []bool
		for _, x := range d {
			if x.Err == api.OK {
				answered = append(answered, x)
			}
			went = append(went, x.Err == api.OK)
			seen[x.Err] = true
		}
		if !sameState(u, v) || !allSame(c, answered) {
			t.Fatalf("of %v, %v: only what went comes to %v, %v", s, l, v, c)
		}
		if v, c := Shipped(s, l); !sameState(u, v) || !allSame(c, d) {
			t.Fatalf("of %v, %v: shipped, it comes to %v, %v", s, l, v, c)
		}
		for i, err := range check.Table(engine.Shape(s), l, went) {
			onTheWay := err == api.OK && (d[i].Err == api.ErrRange || d[i].Err == api.ErrShed || d[i].Err == api.ErrSing)
			if err != d[i].Err && !onTheWay {
				t.Fatalf("of %v, %v: thing %d is told %d, and by the table %d", s, l, i, d[i].Err, err)
			}
		}
	}
	for _, err := range []api.Errno{api.OK, api.ErrArg, api.ErrRange, api.ErrSize, api.ErrFew, api.ErrFull, api.ErrSing, api.ErrShed, api.ErrPlan, api.ErrFade} {
		if !seen[err] {
			t.Errorf("error %d was never told", err)
		}
	}
}

// R5, R6: what is handed in is not changed, no answer shares its memory, and it is the same again.
func TestAnswersAreNewMemory(t *testing.T) {
	seed := drawer(4)
	for range 400 {
		s := seed.state()
		l := seed.things(s, seed.below(12))
		was, things := kept(s), keptOps(l)
		spoil := func(u api.State, d []api.Done) {
			for _, f := range u.Shards {
				f.Tri[0] = -3
			}
			for _, x := range d {
				clear(x.Answer.Coefs)
			}
		}
		u, d := Play(s, l)
		w := Went(l, d)
		wentOnce := keptOps(w)
		for i := range w {
			clear(w[i].Row.X)
			clear(w[i].Plan)
		}
		if !sameOps(Went(l, d), wentOnce) {
			t.Fatalf("what went shares memory with %v", things)
		}
		spoil(u, d)
		spoil(Shipped(s, l))
		spoil(Play(s, nil))
		for n := -1; n < len(s.Shards); n++ {
			again, _ := Again(s, n)
			spoil(again, nil)
		}
		spoil(api.State{}, Solves(s, [][]int{{0}, {0}}, 1))
		if !sameState(s, was) || !sameOps(l, things) {
			t.Fatalf("%v, %v was changed", was, things)
		}
		u, d = Play(s, l)
		if v, c := Play(was, things); !sameState(u, v) || !allSame(c, d) {
			t.Fatalf("asked again, Play(%v, %v) is not the same", was, things)
		}
	}
}
