package script

import (
	"math"
	"math/big"
	"slices"
	"strconv"
	"strings"
	"testing"

	"levelling/api"
	"levelling/audit"
	"levelling/check"
	"levelling/engine"
	"levelling/gram"
	"levelling/near"
	"levelling/plan"
	"levelling/replay"
	"levelling/tri"
)

// The document's own promises, P1 to P6, which the layers keep together, and its ten examples.

func insertOf(shard int, r api.Row) api.Op { return api.Op{Kind: api.Insert, Shard: shard, Row: r} }

func removeOf(shard int, r api.Row) api.Op { return api.Op{Kind: api.Remove, Shard: shard, Row: r} }

func rowOf(y float64, x ...float64) api.Row { return api.Row{X: x, Y: y} }

// row has entries that are about as great as 2 to the power of exp; some are zeros.
func (d *drawer) row(cols, exp int) api.Row {
	r := api.Row{Y: d.float(exp + d.below(3))}
	for range cols {
		r.X = append(r.X, one(d, d.float(exp+d.below(3)), d.float(exp), d.float(exp), 0))
	}
	return r
}

func fresh(t *testing.T, cols, shards int) api.State {
	t.Helper()
	s, err := engine.New(cols, shards)
	if err != api.OK {
		t.Fatalf("New(%d, %d): %d", cols, shards, err)
	}
	return s
}

// done is the state behind a thing that has to go.
func done(t *testing.T, s api.State, o api.Op) api.State {
	t.Helper()
	next, _, err := engine.Do(s, o)
	if err != api.OK {
		t.Fatalf("Do(%v, %v): %d", s, o, err)
	}
	return next
}

// listOf is the Gram list of rows.
func listOf(t *testing.T, cols int, l []api.Row) []api.Dyad {
	t.Helper()
	list, is := gram.Rows(cols, l)
	if !is {
		t.Fatalf("Rows(%d, %v)", cols, l)
	}
	return list
}

// treeOf is a plan of shards 0 to n - 1, in any order and tree.
func (d *drawer) treeOf(n int) []int {
	order := make([]int, n)
	for i := range order {
		at := d.below(i + 1)
		order[i], order[at] = order[at], i
	}
	var steps []int
	open := 0
	for _, k := range order {
		steps = append(steps, k)
		open++
		for open > 1 && d.below(2) == 0 {
			steps = append(steps, -1)
			open--
		}
	}
	for ; open > 1; open-- {
		steps = append(steps, -1)
	}
	return steps
}

// history is all of rows that came into a shard, and of them those that went out again.
type history struct{ in, out []api.Row }

// net is the Gram list of the rows that are there.
func (r history) net(t *testing.T, cols int) []api.Dyad {
	t.Helper()
	list, is := gram.Sub(listOf(t, cols, r.in), listOf(t, cols, r.out))
	if !is {
		t.Fatalf("of %v", r)
	}
	return list
}

// scaled is l, with all numbers times beta, a power of two.
func scaled(l []api.Row, beta float64) []api.Row {
	var out []api.Row
	for _, r := range l {
		s := api.Row{Y: r.Y * beta}
		for _, x := range r.X {
			s.X = append(s.X, x*beta)
		}
		out = append(out, s)
	}
	return out
}

// behind is the rows behind a thing that went; a fade is by a power of two.
func behind(all []history, o api.Op) {
	r := &all[o.Shard]
	switch o.Kind {
	case api.Insert:
		r.in = append(slices.Clone(r.in), o.Row)
	case api.Remove:
		r.out = append(slices.Clone(r.out), o.Row)
	case api.Fade:
		r.in, r.out = scaled(r.in, o.Beta), scaled(r.out, o.Beta)
	case api.Merge:
		from := &all[o.From]
		r.in, r.out = slices.Concat(r.in, from.in), slices.Concat(r.out, from.out)
		*from = history{}
	}
}

// rowThings are things of rows alone, of which some fail.
func (d *drawer) rowThings(cols, shards, n int) []api.Op {
	var l []api.Op
	exp := one(d, 0, 0, 20, -20, -370, 396)
	for range n {
		o := insertOf(d.below(shards), d.row(cols, exp))
		switch d.below(8) {
		case 0:
			o.Kind = api.Remove
			fallthrough // rows that came in are taken out, or come again
		case 1:
			if len(l) > 0 {
				before := one(d, l...)
				if before.Kind == api.Insert {
					o.Shard, o.Row = before.Shard, before.Row
				}
			}
		case 2:
			o = api.Op{Kind: api.Merge, Shard: o.Shard, From: d.below(shards)}
		case 3:
			o = api.Op{Kind: api.Fade, Shard: o.Shard, Beta: math.Ldexp(1, -d.below(3))}
		}
		l = append(l, o)
	}
	return l
}

// P1: at each moment each shard is near to the rows that it was given, counted without an error beside the program, and so is each answer.
func TestNearToWhatCameIn(t *testing.T) {
	seed := drawer(21)
	held, solved := 0, 0
	for range 60 {
		cols, shards := 1+seed.below(6), 1+seed.below(3)
		s := fresh(t, cols, shards)
		rows := make([]history, shards)
		for _, o := range seed.rowThings(cols, shards, 30) {
			next, _, err := engine.Do(s, o)
			if err != api.OK {
				continue
			}
			s = next
			behind(rows, o)
			for k, f := range s.Shards {
				got, _ := gram.Factor(f)
				if at, is := near.Check(cols, rows[k].net(t, cols), listOf(t, cols, rows[k].in), got, f.Turns); !is {
					t.Fatalf("behind %v shard %d of %v is not near at %d", o, k, s, at)
				}
				held++
			}
			solved += holdSolve(t, &seed, s, rows)
		}
	}
	if held < 1000 || solved < 300 {
		t.Errorf("%d shards, %d answers", held, solved)
	}
}

// holdSolve asks for answers of all shards, with a ridge or without; it tells how many there were.
func holdSolve(t *testing.T, d *drawer, s api.State, rows []history) int {
	t.Helper()
	o := api.Op{Kind: api.Solve, Plan: d.treeOf(len(rows)), Mu: one(d, 0, 0, 1, 1e-3, math.Ldexp(1, 380), math.Ldexp(1, -390))}
	_, a, err := engine.Do(s, o)
	if err != api.OK {
		return 0
	}
	all := history{}
	for _, r := range rows {
		all.in, all.out = slices.Concat(all.in, r.in), slices.Concat(all.out, r.out)
	}
	for i := range s.Cols {
		ridge := api.Row{X: make([]float64, s.Cols)}
		ridge.X[i] = o.Mu
		all.in = append(all.in, ridge)
	}
	if at, is := near.Normal(s.Cols, all.net(t, s.Cols), listOf(t, s.Cols, all.in), a.Coefs, a.Turns); !is {
		t.Fatalf("%v, asked of %v: %v is not near at %d", o, s, a, at)
	}
	return 1
}

// P1: what is moved by more than little is not near.
func TestFarFromWhatCameIn(t *testing.T) {
	rows := []api.Row{rowOf(3, 1, 1), rowOf(5, 1, 2), rowOf(7.5, 1, 3)}
	s := fresh(t, 2, 1)
	for _, r := range rows {
		s = done(t, s, insertOf(0, r))
	}
	list := listOf(t, 2, rows)
	_, a, err := engine.Do(s, api.Op{Kind: api.Solve, Plan: []int{0}})
	if _, is := near.Normal(2, list, list, a.Coefs, a.Turns); !is || err != api.OK {
		t.Fatalf("%v, %d", a, err)
	}
	for i := range a.Coefs {
		off := slices.Clone(a.Coefs)
		off[i] *= 1 + 1e-10
		if _, is := near.Normal(2, list, list, off, a.Turns); is {
			t.Errorf("%v is near", off)
		}
	}
	for i := range s.Shards[0].Tri {
		f := kept(s).Shards[0]
		f.Tri[i] += 1e-10
		got, _ := gram.Factor(f)
		if _, is := near.Check(2, list, list, got, f.Turns); is && i != 5 {
			t.Errorf("%v is near", f)
		}
	}
}

// P2: the same rows, in any shards and any trees, come near to one another, and so do their answers.
func TestTrees(t *testing.T) {
	seed := drawer(22)
	for range 80 {
		cols, exp := 1+seed.below(6), one(&seed, 0, 0, 100, -390, 390)
		var rows []api.Row
		for range cols + 2 + seed.below(20) {
			rows = append(rows, seed.row(cols, exp))
		}
		list := listOf(t, cols, rows)
		var before api.Factor
		for try := range 5 {
			shards := 1 + seed.below(8)
			s := fresh(t, cols, shards)
			for _, i := range seed.treeOf(len(rows)) {
				if i >= 0 {
					s = done(t, s, insertOf(seed.below(shards), rows[i]))
				}
			}
			steps := seed.treeOf(shards)
			f, err := plan.Run(steps, s.Shards)
			got, is := gram.Factor(f)
			if err != api.OK || !is || f.Rows != len(rows) {
				t.Fatalf("Run(%v, %v): %v, %d", steps, s, f, err)
			}
			if try > 0 {
				other, _ := gram.Factor(before)
				if at, is := near.Check(cols, other, list, got, before.Turns+f.Turns); !is {
					t.Fatalf("%v is not near to %v at %d", f, before, at)
				}
			}
			before = f
			_, a, err := engine.Do(s, api.Op{Kind: api.Solve, Plan: steps})
			if _, is := near.Normal(cols, list, list, a.Coefs, a.Turns); err != api.OK || !is || a.Turns != f.Turns {
				t.Fatalf("plan %v of %v: %v, %d", steps, s, a, err)
			}
		}
	}
}

// P2: as often as shards are shipped and loaded, each into itself or by way of a new one, no later bit is another one.
func TestShippedShards(t *testing.T) {
	seed := drawer(23)
	ships := 0
	for range 200 {
		text := seed.text(20)
		s, l, _, _ := Read(text)
		// Loads of the text itself are by numbers of its own lines: they are left out.
		l = slices.DeleteFunc(l, func(o api.Op) bool { return o.Kind == api.Load })
		last, _, done := Run(s, l)
		var more []api.Op
		var places []int
		for _, o := range l {
			for range seed.below(3) {
				k := seed.below(len(s.Shards))
				more = append(more, api.Op{Kind: api.Ship, Shard: k}, api.Op{Kind: api.Load, Shard: k, From: len(more)})
				ships++
			}
			places = append(places, len(more))
			more = append(more, o)
		}
		shippedLast, _, all := Run(s, more)
		var picked []api.Done
		for i, d := range all {
			if slices.Contains(places, i) {
				picked = append(picked, d)
			} else if d.Err != api.OK {
				t.Fatalf("thing %d of %v: %d", i, more, d.Err)
			}
		}
		if !sameState(last, shippedLast) || !allSame(done, picked) {
			t.Fatalf("%q, with shards shipped, comes to %v, %v, not %v, %v", text, shippedLast, picked, last, done)
		}
	}
	if ships < 1000 {
		t.Errorf("%d ships", ships)
	}
}

// P3: errors are those of a table over the script, but for those that rows themselves tell; what fails changes nothing; all floats are numbers.
func TestWholeOrNothing(t *testing.T) {
	seed := drawer(24)
	count := map[api.Errno]int{}
	for range 400 {
		text := seed.text(40)
		first, l, n, err := Read(text)
		if err != api.OK {
			t.Fatalf("Read(%q): %d, %d", text, n, err)
		}
		s := first
		_, asked, done := Run(first, l)
		var went []bool
		for _, d := range done {
			went = append(went, d.Err == api.OK)
		}
		table := check.Table(engine.Shape(first), asked, went)
		for i, o := range asked {
			count[done[i].Err]++
			if !mayBeTold(o.Kind, table[i], done[i].Err) {
				t.Fatalf("thing %d of %q: %d, not %d", i, text, done[i].Err, table[i])
			}
			next, a, err := engine.Do(s, o)
			if err != done[i].Err || err != api.OK && (!sameState(next, s) || !sameAnswer(a, api.Answer{})) {
				t.Fatalf("thing %d of %q: %d, and %v, %v", i, text, err, next, a)
			}
			if !areNumbers(a) || !engine.Check(next) {
				t.Fatalf("thing %d of %q: %v, %v", i, text, a, next)
			}
			s = next
		}
	}
	for _, err := range []api.Errno{api.OK, api.ErrArg, api.ErrRange, api.ErrSize, api.ErrFew, api.ErrSing, api.ErrShed, api.ErrForm, api.ErrPlan, api.ErrFade} {
		if count[err] == 0 {
			t.Errorf("error %d is never told", err)
		}
	}
}

// P3: as many rows and rotations as there may be, and one more of each.
func TestFull(t *testing.T) {
	lines := slices.Concat([]string{"levelling 1 2"}, slices.Repeat([]string{"in 0 1 1"}, 202), []string{"in 1 1 1", "merge 0 1", "merge 1 0", "solve 0 0 1 +", "tell 0 1 +"}, slices.Repeat([]string{"fade 0 1"}, 3695), []string{"solve 1 0", "fade 0 1", "solve 0 0", "solve 1 0", "fade 0 1", "in 0 1 1", "out 0 1 1", "merge 1 0"})
	text := strings.Join(lines, "\n")
	first, l, n, err := Read(text)
	if err != api.OK {
		t.Fatalf("%d, %d", n, err)
	}
	last, asked, done := Run(first, l)
	want := slices.Repeat([]api.Errno{api.OK}, len(l))
	for _, i := range []int{200, 201, 203, 204, 205, 206, len(l) - 8, len(l) - 5, len(l) - 4, len(l) - 3, len(l) - 2, len(l) - 1} {
		want[i] = api.ErrFull
	}
	if got := errsOf(done); !slices.Equal(got, want) || !slices.Equal(check.Table(engine.Shape(first), asked, nil), want) {
		t.Errorf("%v", got)
	}
	if f := last.Shards[0]; f.Rows != 200 || f.Turns != 4096 {
		t.Errorf("%v", f)
	}
	if at, err := audit.Audit(first, asked); at != len(l) || err != api.OK {
		t.Errorf("%d, %d", at, err)
	}
}

// mayBeTold tells whether a script's thing may have that error, where a table has another one: only what is wrong with the rows that are there.
func mayBeTold(kind int, table, err api.Errno) bool {
	switch {
	case err == table:
		return true
	case table != api.OK:
		return false
	case kind == api.Remove:
		return err == api.ErrShed
	}
	return kind == api.Solve && (err == api.ErrSing || err == api.ErrRange)
}

func areNumbers(a api.Answer) bool {
	for _, x := range slices.Concat(a.Coefs, floatsOf(a.Stats)) {
		if math.IsInf(x, 0) || math.IsNaN(x) {
			return false
		}
	}
	return true
}

// P3: of as many rows as there may be, each of the greatest numbers, nothing is too great but an answer.
func TestNothingIsTooGreat(t *testing.T) {
	seed := drawer(25)
	high, low := math.Ldexp(1, 400), math.Ldexp(1, -400)
	for _, cols := range []int{1, 2, 6} {
		s := fresh(t, cols, 8)
		var l []api.Op
		for i := range 200 {
			r := api.Row{Y: high * one(&seed, 1.0, -1)}
			for range cols {
				r.X = append(r.X, high*one(&seed, 1.0, 1, 1, -1))
			}
			l = append(l, insertOf(i%8, r))
			if i%9 == 8 {
				l = append(l, removeOf(i%8, r))
			}
		}
		for k := 1; k < 8; k++ {
			l = append(l, api.Op{Kind: api.Merge, From: k}, api.Op{Kind: api.Tell, Plan: plan.Even(8)})
		}
		last, done := replay.Play(s, l)
		for i, d := range done {
			if d.Err != api.OK && d.Err != api.ErrShed || !areNumbers(d.Answer) {
				t.Errorf("of %d columns, thing %d: %v", cols, i, d)
			}
		}
		if rows := last.Shards[0].Rows; rows < 170 || last.Shards[0].Tri[0] < 10*high {
			t.Errorf("of %d columns: %v", cols, last)
		}
	}
	// Of the least numbers and the greatest ones an answer may be; of some columns it is too great.
	s := fresh(t, 1, 1)
	s = done(t, s, insertOf(0, rowOf(high, low)))
	if _, a, err := engine.Do(s, api.Op{Kind: api.Solve, Plan: []int{0}}); err != api.OK || !sameBits(a.Coefs, []float64{math.Ldexp(1, 800)}) {
		t.Errorf("%v, %d", a, err)
	}
	s = fresh(t, 2, 1)
	s, done := replay.Play(s, []api.Op{insertOf(0, rowOf(0, low, high)), insertOf(0, rowOf(high, 0, low)), {Kind: api.Solve, Plan: []int{0}}, {Kind: api.Tell, Plan: []int{0}}, insertOf(0, rowOf(1, 1, 1)), {Kind: api.Tell, Plan: []int{0}}})
	if want := []api.Errno{0, 0, api.ErrRange, api.ErrFew, 0, 0}; !slices.Equal(errsOf(done), want) {
		t.Errorf("%v, of %v", errsOf(done), s)
	}
}

func errsOf(d []api.Done) []api.Errno {
	var l []api.Errno
	for _, x := range d {
		l = append(l, x.Err)
	}
	return l
}

// leans tells whether the columns of a Gram list, but the last one, lean on one another: whether its determinant, counted without an error, is 0.
func leans(cols int, list []api.Dyad) bool {
	m := make([][]*big.Rat, cols)
	for i := range m {
		for j := range cols {
			at, _ := tri.At(cols, min(i, j), max(i, j))
			m[i] = append(m[i], ratio(list[at]))
		}
	}
	for i := range m {
		pivot := slices.IndexFunc(m[i:], func(row []*big.Rat) bool { return row[i].Sign() != 0 })
		if pivot < 0 {
			return true
		}
		m[i], m[i+pivot] = m[i+pivot], m[i]
		for _, row := range m[i+1:] {
			by := new(big.Rat).Quo(row[i], m[i][i])
			for j := range row {
				row[j] = new(big.Rat).Sub(row[j], new(big.Rat).Mul(by, m[i][j]))
			}
		}
	}
	return false
}

// ratio is d, by the library's numbers.
func ratio(d api.Dyad) *big.Rat {
	n := new(big.Int)
	for _, x := range slices.Backward(d.N) {
		n.Or(n.Lsh(n, 32), big.NewInt(int64(x)))
	}
	if d.Neg {
		n.Neg(n)
	}
	if d.Exp < 0 {
		return new(big.Rat).SetFrac(n, new(big.Int).Lsh(big.NewInt(1), uint(-d.Exp)))
	}
	return new(big.Rat).SetInt(n.Lsh(n, uint(d.Exp)))
}

// P4: what is told to be singular came to columns that lean on one another, and is near to its ledger; with a ridge nothing is.
func TestSingular(t *testing.T) {
	seed := drawer(26)
	singular, solved := 0, 0
	for range 400 {
		cols, shards := 1+seed.below(4), 1+seed.below(3)
		s := fresh(t, cols, shards)
		var rows []api.Row
		fewRows, leaning := one(&seed, 1, 2, cols, cols+3), seed.below(2) == 0
		for range fewRows {
			r := seed.row(cols, one(&seed, 0, 0, 397, -400))
			if leaning {
				r = api.Row{Y: r.Y, X: slices.Repeat([]float64{one(&seed, 0, 1, 2, 3.5)}, cols)}
			}
			rows = append(rows, r)
			s = done(t, s, insertOf(seed.below(shards), r))
		}
		steps := seed.treeOf(shards)
		for _, mu := range []float64{math.Ldexp(1, -400), 1e-30, 1, math.Ldexp(1, 400)} {
			if _, _, err := engine.Do(s, api.Op{Kind: api.Solve, Plan: steps, Mu: mu}); err == api.ErrSing {
				t.Fatalf("plan %v of %v with a ridge of %v: singular", steps, s, mu)
			}
		}
		_, _, err := engine.Do(s, api.Op{Kind: api.Solve, Plan: steps})
		if err != api.ErrSing {
			solved++
			continue
		}
		singular++
		f, _ := plan.Run(steps, s.Shards)
		got, _ := gram.Factor(f)
		list := listOf(t, cols, rows)
		if _, is := near.Check(cols, list, list, got, f.Turns); !is || !leans(cols, got) {
			t.Fatalf("plan %v of %v: singular, but %v is near to no columns that lean", steps, s, f)
		}
	}
	if singular < 50 || solved < 50 {
		t.Errorf("%d were singular, %d were solved", singular, solved)
	}
}

// P4: by hand: no rows, a column of zeros, columns that are the same; with a ridge they have answers.
func TestSingularByHand(t *testing.T) {
	for i, c := range []struct {
		rows []api.Row
		want api.Errno
	}{
		{nil, api.ErrSing},
		{[]api.Row{rowOf(1, 0, 0)}, api.ErrSing},
		{[]api.Row{rowOf(1, 3, 0), rowOf(2, 4, 0)}, api.ErrSing},
		{[]api.Row{rowOf(1, 0, 3), rowOf(2, 0, 4)}, api.ErrSing},
		{[]api.Row{rowOf(1, 3, 3)}, api.ErrSing},
		{[]api.Row{rowOf(1, 3, 3), rowOf(2, 3, 3)}, api.ErrSing},
		{[]api.Row{rowOf(1, 3, 3), rowOf(2, 3, 4)}, api.OK},
		{[]api.Row{rowOf(1, 0, 3), rowOf(2, 3, 0)}, api.OK},
	} {
		s := fresh(t, 2, 1)
		for _, r := range c.rows {
			s = done(t, s, insertOf(0, r))
		}
		if _, a, err := engine.Do(s, api.Op{Kind: api.Solve, Plan: []int{0}}); err != c.want || (len(a.Coefs) == 2) != (err == api.OK) {
			t.Errorf("case %d: %v, %d", i, a, err)
		}
		if _, a, err := engine.Do(s, api.Op{Kind: api.Solve, Plan: []int{0}, Mu: 0.5}); err != api.OK || len(a.Coefs) != 2 {
			t.Errorf("case %d, with a ridge: %v, %d", i, a, err)
		}
	}
}

// ofShard tells whether a thing is asked of shard k alone.
func ofShard(o api.Op, k int) bool {
	switch o.Kind {
	case api.Solve, api.Tell:
		return slices.Equal(o.Plan, []int{k})
	}
	return o.Shard == k
}

// P5: what is asked of one shard comes to the same, whatever is asked of others, and whatever they are.
func TestApart(t *testing.T) {
	seed := drawer(27)
	for range 150 {
		text := seed.text(30)
		s, l, _, _ := Read(text)
		for i := range l {
			if l[i].Kind == api.Solve || l[i].Kind == api.Tell {
				l[i].Plan = []int{l[i].Shard + seed.below(len(s.Shards))}
			}
		}
		l = slices.DeleteFunc(l, func(o api.Op) bool { return o.Kind == api.Merge || o.Kind == api.Load })
		last, done := replay.Play(s, l)
		for k := range s.Shards {
			var alone []api.Op
			var want []api.Done
			for i, o := range l {
				if ofShard(o, k) {
					alone = append(alone, o)
					want = append(want, done[i])
				}
			}
			// The others are new, or what they came to in the end.
			other := kept(last)
			other.Shards[k] = kept(s).Shards[k]
			for _, from := range []api.State{s, other} {
				u, got := replay.Play(from, alone)
				if !allSame(got, want) || !sameState(api.State{Cols: s.Cols, Shards: u.Shards[k : k+1]}, api.State{Cols: s.Cols, Shards: last.Shards[k : k+1]}) {
					t.Fatalf("%q, of shard %d alone: %v, %v, not %v, %v", text, k, u.Shards[k], got, last.Shards[k], want)
				}
			}
		}
	}
}

// P5: shards that are faded by the same power of two have the same answers, with all their bits, and fit as well.
func TestForgottenAlike(t *testing.T) {
	seed := drawer(28)
	solved := 0
	for range 200 {
		cols, shards := 1+seed.below(6), 1+seed.below(4)
		s := fresh(t, cols, shards)
		for range shards * (cols + 2) {
			s = done(t, s, insertOf(seed.below(shards), seed.row(cols, one(&seed, 0, 0, 0, 200, -200))))
		}
		beta := math.Ldexp(1, -seed.below(21))
		faded := s
		for k := range shards {
			faded = done(t, faded, api.Op{Kind: api.Fade, Shard: k, Beta: beta})
		}
		for range 3 {
			steps := seed.treeOf(shards)
			_, a, err := engine.Do(s, api.Op{Kind: api.Solve, Plan: steps})
			_, b, same := engine.Do(faded, api.Op{Kind: api.Solve, Plan: steps})
			if err != same || !sameBits(a.Coefs, b.Coefs) || err == api.OK && b.Turns != a.Turns+1 {
				t.Fatalf("plan %v of %v, faded by %v: %v, %d, not %v, %d", steps, s, beta, b, same, a, err)
			}
			if err == api.OK {
				solved++
			}
			_, c, err := engine.Do(s, api.Op{Kind: api.Tell, Plan: steps})
			_, d, same := engine.Do(faded, api.Op{Kind: api.Tell, Plan: steps})
			scaled := []float64{c.Stats.Rest * beta * beta, c.Stats.Total * beta * beta, c.Stats.Var * beta * beta, c.Stats.Fit}
			if err != same || !sameBits(scaled, floatsOf(d.Stats)) {
				t.Fatalf("plan %v of %v, faded by %v: %v, not %v", steps, s, beta, d, c)
			}
		}
	}
	if solved < 300 {
		t.Errorf("%d were solved", solved)
	}
}

// P6: each text that can be read is played to one whose last line says that all is near, with a line ahead of it for each thing.
func TestTexts(t *testing.T) {
	seed := drawer(29)
	for range 120 {
		text := seed.text(35)
		s, n, err := Play(text)
		lines := strings.Split(s, "\n")
		if err != api.OK || n != 0 || len(lines) != 37 || lines[35] != "near" || lines[36] != "" {
			t.Fatalf("Play(%q): %q, %d, %d", text, s, n, err)
		}
		for i, line := range lines[:35] {
			if !strings.HasPrefix(line, strconv.Itoa(i)+" ") {
				t.Errorf("Play(%q): line %d is %q", text, i, line)
			}
		}
		if again, _, _ := Play(text); again != s {
			t.Errorf("Play(%q) again: %q, not %q", text, again, s)
		}
	}
}

func closeTo(got []float64, want ...float64) bool {
	return slices.EqualFunc(got, want, func(a, b float64) bool { return math.Abs(a-b) <= 1e-14*(1+math.Abs(b)) })
}

// ran is the last state of a text, and what came of its things.
func ran(t *testing.T, lines ...string) (api.State, []api.Done) {
	t.Helper()
	text := strings.Join(lines, "\n")
	s, l, n, err := Read(text)
	if err != api.OK {
		t.Fatalf("Read(%q): %d, %d", text, n, err)
	}
	last, asked, done := Run(s, l)
	if at, err := audit.Audit(s, asked); at != len(l) || err != api.OK {
		t.Errorf("Audit of %q: %d, %d", text, at, err)
	}
	if out, _, _ := Play(text); !strings.HasSuffix(out, "near\n") {
		t.Errorf("Play(%q): %q", text, out)
	}
	return last, done
}

// The ten examples of the whole; each text's last line is "near".
func TestTenExamples(t *testing.T) {
	first, done := ran(t, "levelling 1 1", "in 0 3 6", "solve 0 0")
	if !sameBits(first.Shards[0].Tri, []float64{3, 6, 0}) || !sameBits(done[1].Answer.Coefs, []float64{2}) {
		t.Errorf("example 1: %v, %v", first, done)
	}
	s, done := ran(t, "levelling 1 1", "in 0 3 6", "in 0 4 8", "solve 0 0")
	if !closeTo(s.Shards[0].Tri, 5, 10, 0) || !closeTo(done[2].Answer.Coefs, 2) {
		t.Errorf("example 2: %v, %v", s, done)
	}
	s, done = ran(t, "levelling 1 1", "in 0 1p401 1", "in 0 1 1 1", "in 0 1p401 1p401 1", "in 0 1 1p500")
	if !slices.Equal(errsOf(done), []api.Errno{api.ErrRange, api.ErrSize, api.ErrSize, api.ErrRange}) || s.Shards[0].Rows != 0 {
		t.Errorf("example 3: %v, %v", s, done)
	}
	s, done = ran(t, "levelling 1 1", "in 0 3 6", "out 0 4 8")
	if done[1].Err != api.ErrShed || !sameState(s, first) {
		t.Errorf("example 4: %v, %v", s, done)
	}
	s, done = ran(t, "levelling 1 1", "in 0 3 6", "fade 0 1p-1", "solve 0 0")
	if !sameBits(s.Shards[0].Tri, []float64{1.5, 3, 0}) || !sameBits(done[2].Answer.Coefs, []float64{2}) {
		t.Errorf("example 5: %v, %v", s, done)
	}
	_, done = ran(t, "levelling 1 3", "in 0 3 6", "in 1 4 7", "in 2 5 11", "in 1 1p-3 9", "solve 0 0 1 + 2 +", "solve 0 0 1 2 + +")
	if a, b := done[4].Answer.Coefs, done[5].Answer.Coefs; len(a) != 1 || !closeTo(a, b...) || done[4].Answer.Turns != 10 || done[5].Answer.Turns != 10 {
		t.Errorf("example 6: %v", done)
	}
	_, done = ran(t, "levelling 1 1", "solve 0 0", "solve 1 0")
	if done[0].Err != api.ErrSing || done[1].Err != api.OK || !sameBits(done[1].Answer.Coefs, []float64{0}) {
		t.Errorf("example 7: %v", done)
	}
	s, _ = ran(t, "levelling 1 2", "in 0 3 6", "in 0 1p-7 -9", "ship 0", "load 1 2")
	if !sameState(api.State{Shards: s.Shards[:1]}, api.State{Shards: s.Shards[1:]}) || s.Shards[1].Rows != 2 {
		t.Errorf("example 8: %v", s)
	}
	_, done = ran(t, "levelling 1 2", "in 0 3 6", "solve 0 0 0 +", "tell 0 1 + 0 +")
	if done[1].Err != api.ErrPlan || done[2].Err != api.ErrPlan {
		t.Errorf("example 9: %v", done)
	}
}

// R1: nothing panics, whatever is asked of whatever.
func TestNothingPanics(t *testing.T) {
	for _, text := range []string{"\x00", "levelling 1 1\n" + strings.Repeat("in 0 1 1\n", 300), "levelling 6 8\nin 0" + strings.Repeat(" 1", 5000), "levelling 1 1\nsolve 0" + strings.Repeat(" 0 +", 5000), "levelling 1 1\ntell" + strings.Repeat(" +", 9999), strings.Repeat("\n", 1000), strings.Repeat(" ", 1000), strings.Repeat("-", 1000), "levelling 1 1\nload 0 0\nload 0 1\nship 0\nload 0 2"} {
		Play(text)
		Parse(text)
		Float(text)
	}
	o := api.Op{Kind: api.Load, From: math.MaxInt, Shard: math.MinInt, Plan: []int{math.MinInt}, Row: api.Row{X: []float64{math.NaN()}}}
	for kind := range 10 {
		o.Kind = kind
		Run(api.State{Cols: math.MinInt, Shards: make([]api.Factor, 3)}, []api.Op{o})
		Run(api.State{}, []api.Op{o, o})
		Line(math.MinInt, o, api.Done{Answer: api.Answer{Turns: math.MinInt, Coefs: []float64{math.Inf(1)}}})
	}
}
