package audit

import (
	"math"
	"math/big"
	"slices"
	"testing"

	"levelling/api"
	"levelling/dyad"
	"levelling/engine"
	"levelling/ledger"
	"levelling/near"
	"levelling/plan"
	"levelling/replay"
	"levelling/snap"
)

var (
	minusZero = math.Copysign(0, -1)
	infinity  = math.Inf(1)
	// Rows have no numbers but those of these sizes, and 0.
	lowest  = math.Ldexp(1, -400)
	highest = math.Ldexp(1, 400)
	// Nothing is faded by less than this.
	leastBeta = math.Ldexp(1, -20)
	// A triangle's entries end here.
	greatest = math.Ldexp(1, 420)
)

func size(cols int) int { return (cols + 1) * (cols + 2) / 2 }

// diagonal tells where row i of so many columns begins.
func diagonal(cols, i int) int {
	at := 0
	for row := range i {
		at += cols + 1 - row
	}
	return at
}

func sameList(a, b []api.Dyad) bool {
	return slices.EqualFunc(a, b, func(a, b api.Dyad) bool {
		return a.Neg == b.Neg && a.Exp == b.Exp && slices.Equal(a.N, b.N)
	})
}

func sameBook(a, b api.Book) bool {
	return a.Cols == b.Cols && a.Rows == b.Rows && a.Turns == b.Turns && sameList(a.Net, b.Net) && sameList(a.In, b.In)
}

func sameBooks(a, b []api.Book) bool { return slices.EqualFunc(a, b, sameBook) }

// digits is l, whose dyads' digits are lists of their own.
func digits(l []api.Dyad) []api.Dyad {
	l = slices.Clone(l)
	for i := range l {
		l[i].N = slices.Clone(l[i].N)
	}
	return l
}

// kept is b, of memory of its own.
func kept(b []api.Book) []api.Book {
	b = slices.Clone(b)
	for k := range b {
		b[k].Net, b[k].In = digits(b[k].Net), digits(b[k].In)
	}
	return b
}

// keptState is s, of memory of its own.
func keptState(s api.State) api.State {
	s.Shards = slices.Clone(s.Shards)
	for k := range s.Shards {
		s.Shards[k].Tri = slices.Clone(s.Shards[k].Tri)
	}
	return s
}

// put is b with another book k.
func put(b []api.Book, k int, book api.Book) []api.Book {
	b = kept(b)
	b[k] = book
	return b
}

func dyadOf(x float64) api.Dyad {
	d, _ := dyad.From(x)
	return d
}

func insertOf(shard int, y float64, x ...float64) api.Op {
	return api.Op{Kind: api.Insert, Shard: shard, Row: api.Row{X: x, Y: y}}
}

func removeOf(shard int, y float64, x ...float64) api.Op {
	return api.Op{Kind: api.Remove, Shard: shard, Row: api.Row{X: x, Y: y}}
}

func solveOf(mu float64, steps ...int) api.Op {
	return api.Op{Kind: api.Solve, Mu: mu, Plan: steps}
}

func fresh(t *testing.T, cols, shards int) api.State {
	t.Helper()
	s, err := engine.New(cols, shards)
	if err != api.OK {
		t.Fatalf("New(%d, %d): %d", cols, shards, err)
	}
	return s
}

func booksOf(t *testing.T, s api.State) []api.Book {
	t.Helper()
	b, err := Books(s)
	if err != api.OK {
		t.Fatalf("Books(%v): %d", s, err)
	}
	return b
}

// drawer hands out numbers, the same ones again for each start.
type drawer uint64

func (d *drawer) next() uint64 {
	*d ^= *d << 13
	*d ^= *d >> 7
	*d ^= *d << 17
	return uint64(*d)
}

func (d *drawer) below(n int) int { return int(d.next() % uint64(n)) }

// one is one of l.
func one[T any](d *drawer, l ...T) T { return l[d.below(len(l))] }

// float is one of 53 bits, whose size is 1 to 2 times 2 to the power of exp.
func (d *drawer) float(exp int) float64 {
	return math.Ldexp(1+float64(d.next()>>12)/(1<<52), exp) * one(d, 1.0, -1)
}

// factor has at most so many rows, and rotations that go with them; its entries are about as great as 2 to the power of exp.
func (d *drawer) factor(cols, rows, exp int) api.Factor {
	f := api.Factor{Cols: cols, Rows: d.below(rows + 1)}
	f.Turns = f.Rows * (cols + 1)
	for i := range cols + 1 {
		for j := i; j <= cols; j++ {
			x := one(d, d.float(exp), d.float(exp), d.float(exp-d.below(9)), 0, minusZero)
			if i == j {
				x = math.Abs(x)
			}
			f.Tri = append(f.Tri, x)
		}
	}
	return f
}

// exps are sizes of all kinds: of numbers that vanish, of the least and the greatest ones, and of such as are everyday.
func (d *drawer) exp() int { return one(d, 0, 0, 0, 3, -3, -400, 398, 418, -1040, -900) }

func (d *drawer) state() api.State {
	s := api.State{Cols: 1 + d.below(6)}
	exp := d.exp()
	for range 1 + d.below(8) {
		f := d.factor(s.Cols, 30, exp)
		if d.below(3) == 0 {
			f = api.Factor{Cols: s.Cols, Tri: make([]float64, size(s.Cols))}
		}
		s.Shards = append(s.Shards, f)
	}
	return s
}

// dyads has up to three digits each, and exponents that are not far from 0.
func (d *drawer) dyads(cols int) []api.Dyad {
	l := make([]api.Dyad, size(cols))
	for i := range l {
		if d.below(6) == 0 {
			continue
		}
		n := api.Nat{uint32(d.next()) | 1}
		for range d.below(3) {
			n = append(n, uint32(d.next())|1)
		}
		l[i] = api.Dyad{Neg: d.below(2) == 0, N: n, Exp: d.below(81) - 40}
	}
	return l
}

// books are any that may be, most of them of so many columns, some at the edges of rows and rotations; now and then one that may not be.
func (d *drawer) books(cols, n int) []api.Book {
	var l []api.Book
	for range n {
		b := api.Book{Cols: one(d, cols, cols, cols, cols, cols, cols, cols, cols%6+1)}
		b.Net, b.In = d.dyads(b.Cols), d.dyads(b.Cols)
		b.Rows, b.Turns = one(d, 0, 1, 90, 100, 199, 200), one(d, 0, 7, 4096-size(cols), 4095-cols, 4096-cols, 4095, 4096)
		if d.below(12) == 0 {
			b = one(d, wrongBooks()...)
		}
		l = append(l, b)
	}
	return l
}

// wrongBooks has books that may not be.
func wrongBooks() []api.Book {
	good, _ := ledger.New(2)
	l := []api.Book{{}, {Cols: 2}, {Cols: 2, Net: good.Net}, {Cols: 2, In: good.In}, {Cols: 3, Net: good.Net, In: good.In}, {Cols: -1, Net: good.Net, In: good.In}, {Cols: 2, Net: good.Net[1:], In: good.In}, {Cols: 2, Net: good.Net, In: append(digits(good.In), api.Dyad{})}}
	for _, n := range [][2]int{{-1, 0}, {201, 0}, {0, -1}, {0, 4097}, {math.MaxInt, math.MinInt}} {
		l = append(l, api.Book{Cols: 2, Net: good.Net, In: good.In, Rows: n[0], Turns: n[1]})
	}
	for _, d := range []api.Dyad{{Neg: true}, {Exp: 1}, {N: api.Nat{2}}, {N: api.Nat{1, 0}}, {N: api.Nat{1}, Exp: 20001}, {N: api.Nat{1}, Exp: math.MinInt}} {
		net, in := digits(good.Net), digits(good.In)
		net[5], in[0] = d, d
		l = append(l, api.Book{Cols: 2, Net: net, In: good.In}, api.Book{Cols: 2, Net: good.Net, In: in})
	}
	return l
}

// wrongStates has states that may not be; all but the first ones have shards that may, beside one that may not.
func wrongStates() []api.State {
	seed := drawer(1)
	l := []api.State{{}, {Cols: 1}, {Cols: 2, Shards: []api.Factor{}}, {Cols: 2, Shards: []api.Factor{{}}}, {Cols: 7, Shards: []api.Factor{{Cols: 7, Tri: make([]float64, 36)}}}}
	for k := range 8 {
		for _, change := range []func(f *api.Factor){
			func(f *api.Factor) { f.Cols = 1 },
			func(f *api.Factor) { *f = seed.factor(1, 3, 0) },
			func(f *api.Factor) { f.Tri = f.Tri[1:] },
			func(f *api.Factor) { f.Tri[0] = minusZero },
			func(f *api.Factor) { f.Tri[1] = math.NaN() },
			func(f *api.Factor) { f.Tri[1] = math.Nextafter(greatest, infinity) },
			func(f *api.Factor) { f.Rows = 201 },
			func(f *api.Factor) { f.Turns = -1 },
		} {
			s := api.State{Cols: 2}
			for range 8 {
				s.Shards = append(s.Shards, seed.factor(2, 9, 0))
			}
			change(&s.Shards[k])
			l = append(l, s)
		}
	}
	nine := api.State{Cols: 2}
	for range 9 {
		nine.Shards = append(nine.Shards, seed.factor(2, 9, 0))
	}
	return append(l, nine)
}

// P23.1
func TestBooks(t *testing.T) {
	seed := drawer(2)
	for range 300 {
		s := seed.state()
		b, err := Books(s)
		if err != api.OK || len(b) != len(s.Shards) {
			t.Fatalf("Books(%v): %v, %d", s, b, err)
		}
		for k, f := range s.Shards {
			if want, err := ledger.Of(f); err != api.OK || !sameBook(b[k], want) {
				t.Errorf("Books(%v): book %d is %v", s, k, b[k])
			}
		}
	}
	for i, s := range wrongStates() {
		if b, err := Books(s); err != api.ErrArg || len(b) != 0 {
			t.Errorf("Books of wrong state %d, %v: %v, %d", i, s, b, err)
		}
	}
}

// P23.1: by hand.
func TestBooksOfOneShard(t *testing.T) {
	b, err := Books(api.State{Cols: 1, Shards: []api.Factor{{Cols: 1, Tri: []float64{2, 3, 1}, Rows: 4, Turns: 9}}})
	list := []api.Dyad{dyadOf(4), dyadOf(6), dyadOf(10)}
	if err != api.OK || !sameBooks(b, []api.Book{{Cols: 1, Net: list, In: list, Rows: 4, Turns: 9}}) {
		t.Errorf("%v, %d", b, err)
	}
}

// stepByWords says P23.2 over again.
func stepByWords(b []api.Book, o api.Op) []api.Book {
	is := func(k int) bool { return k >= 0 && k < len(b) }
	if !is(o.Shard) || o.Kind == api.Merge && !is(o.From) {
		return b
	}
	var c api.Book
	err := api.ErrArg
	switch o.Kind {
	case api.Insert:
		c, err = ledger.In(b[o.Shard], o.Row)
	case api.Remove:
		c, err = ledger.Out(b[o.Shard], o.Row)
	case api.Fade:
		c, err = ledger.Fade(b[o.Shard], o.Beta)
	case api.Merge:
		c, err = ledger.Join(b[o.Shard], b[o.From])
	case api.Load:
		if f, told := snap.Decode(o.Bytes); told == api.OK {
			c, err = ledger.Of(f)
		}
	}
	if err != api.OK {
		return b
	}
	next := put(b, o.Shard, c)
	if o.Kind == api.Merge {
		empty, _ := ledger.New(b[o.From].Cols)
		next = put(next, o.From, empty)
	}
	return next
}

// anyOp has all fields, whether its kind names them or not, and may be wrong in each of them.
func (d *drawer) anyOp(cols, shards int) api.Op {
	number := func() int {
		if d.below(10) == 0 {
			return one(d, -1, shards, 8, math.MaxInt, math.MinInt)
		}
		return d.below(shards)
	}
	o := api.Op{
		Kind:  one(d, 1, 2, 3, 4, 4, 5, 6, 7, 8, 1, 2, 3, 4, 4, 6, 0, 9, -1, math.MaxInt, math.MinInt),
		Shard: number(),
		From:  number(),
		Row:   api.Row{Y: d.float(0)},
		Beta:  one(d, 0.5, 0.9, 1, leastBeta, 0, -0.5, 2, infinity, math.NaN()),
		Mu:    one(d, 0, 1, 0.3, lowest),
		Plan:  []int{0},
	}
	for range cols + one(d, 0, 0, 0, 0, 0, 1, -1) {
		o.Row.X = append(o.Row.X, one(d, d.float(0), d.float(1), 0, d.float(one(d, 0, 0, 0, 399, 401))))
	}
	o.Bytes, _ = snap.Encode(d.factor(one(d, cols, cols, cols%6+1), 30, 0))
	if d.below(5) == 0 {
		o.Bytes = o.Bytes[:d.below(len(o.Bytes))]
	}
	return o
}

// P23.2: any books, and anything that may be asked; each kind both goes and does not.
func TestStepByWords(t *testing.T) {
	seed := drawer(3)
	went, stayed := map[int]int{}, map[int]int{}
	for range 6000 {
		cols := 1 + seed.below(6)
		b := seed.books(cols, 1+seed.below(4))
		o := seed.anyOp(cols, len(b))
		want := stepByWords(b, o)
		c := Step(b, o)
		if !sameBooks(c, want) {
			t.Fatalf("Step(%v, %v): %v, not %v", b, o, c, want)
		}
		if sameBooks(c, b) {
			stayed[o.Kind]++
		} else {
			went[o.Kind]++
		}
	}
	for kind := 1; kind <= 8; kind++ {
		changes := kind != api.Ship && kind < api.Solve
		if (went[kind] > 20) != changes || went[kind] > 0 && !changes || stayed[kind] < 20 {
			t.Errorf("kind %d: %d went, %d stayed", kind, went[kind], stayed[kind])
		}
	}
}

// P23.2: by hand, each kind, and nothing but what the kind names.
func TestStep(t *testing.T) {
	s := api.State{Cols: 1, Shards: []api.Factor{{Cols: 1, Tri: []float64{3, 1, 0}, Rows: 1, Turns: 2}, {Cols: 1, Tri: []float64{4, 2, 0}, Rows: 2, Turns: 4}, {Cols: 1, Tri: []float64{1, 1, 1}, Rows: 3, Turns: 6}}}
	b := booksOf(t, s)
	book := func(rows, turns int, net, in []float64) api.Book {
		c := api.Book{Cols: 1, Rows: rows, Turns: turns}
		for i := range net {
			c.Net, c.In = append(c.Net, dyadOf(net[i])), append(c.In, dyadOf(in[i]))
		}
		return c
	}
	three := []float64{0, 0, 0}
	shipped, _ := snap.Encode(s.Shards[2])
	wide, _ := snap.Encode(api.Factor{Cols: 2, Tri: []float64{0, 0, 0, 0, 0, 2}, Rows: 7, Turns: 8})
	four := []api.Dyad{{}, {}, {}, {}, {}, dyadOf(4)}
	for i, c := range []struct {
		o    api.Op
		want []api.Book
	}{
		{insertOf(0, 1, 2), put(b, 0, book(2, 4, []float64{13, 5, 2}, []float64{13, 5, 2}))},
		{removeOf(0, 1, 2), put(b, 0, book(0, 4, []float64{5, 1, 0}, []float64{9, 3, 1}))},
		{removeOf(1, 5, 9), put(b, 1, book(1, 6, []float64{-65, -37, -21}, []float64{16, 8, 4}))},
		{api.Op{Kind: api.Fade, Shard: 1, Beta: 0.5}, put(b, 1, book(2, 5, []float64{4, 2, 1}, []float64{4, 2, 1}))},
		{api.Op{Kind: api.Merge, Shard: 1, From: 0}, put(put(b, 1, book(3, 7, []float64{25, 11, 5}, []float64{25, 11, 5})), 0, book(0, 0, three, three))},
		{api.Op{Kind: api.Merge, Shard: 0, From: 1}, put(put(b, 0, book(3, 7, []float64{25, 11, 5}, []float64{25, 11, 5})), 1, book(0, 0, three, three))},
		{api.Op{Kind: api.Merge, Shard: 1, From: 1}, put(b, 1, book(0, 0, three, three))},
		{api.Op{Kind: api.Load, Shard: 0, Bytes: shipped}, put(b, 0, b[2])},
		{api.Op{Kind: api.Load, Shard: 0, Bytes: wide}, put(b, 0, api.Book{Cols: 2, Net: four, In: four, Rows: 7, Turns: 8})},
		{api.Op{Kind: api.Ship}, b},
		{solveOf(1, 0), b},
		{api.Op{Kind: api.Tell, Plan: []int{2}}, b},
		{api.Op{}, b},
		{api.Op{Kind: 9, Row: api.Row{X: []float64{1}}, Beta: 0.5, From: 1}, b},
		{insertOf(0, 1, 2, 3), b},
		{insertOf(0, infinity, 2), b},
		{removeOf(0, 1), b},
		{api.Op{Kind: api.Fade}, b},
		{api.Op{Kind: api.Fade, Beta: 1.5}, b},
		{api.Op{Kind: api.Load}, b},
		{api.Op{Kind: api.Load, Bytes: shipped[1:]}, b},
	} {
		if got := Step(b, c.o); !sameBooks(got, c.want) {
			t.Errorf("case %d: %v, not %v", i, got, c.want)
		}
	}
	full := b[0]
	full.Rows, full.Turns = 101, 4096
	many := put(put(b, 0, full), 1, full)
	for i, o := range []api.Op{insertOf(0, 1, 2), removeOf(0, 1, 2), {Kind: api.Fade, Beta: 1}, {Kind: api.Merge, From: 1}, {Kind: api.Merge, From: 0}, {Kind: api.Merge, Shard: 2, From: 1}} {
		if got := Step(many, o); !sameBooks(got, many) {
			t.Errorf("full %d: %v", i, got)
		}
	}
}

// P23.2: numbers that no book has, of each kind; no books at all.
func TestStepOfNoBook(t *testing.T) {
	s := api.State{Cols: 1, Shards: []api.Factor{{Cols: 1, Tri: []float64{3, 1, 0}, Rows: 1, Turns: 2}, {Cols: 1, Tri: []float64{4, 2, 0}, Rows: 2, Turns: 4}}}
	shipped, _ := snap.Encode(s.Shards[0])
	b := booksOf(t, s)
	for _, k := range []int{-1, -2, 2, 3, 8, 1 << 32, math.MaxInt, math.MinInt} {
		for kind := range 10 {
			o := api.Op{Kind: kind, Shard: k, Row: api.Row{X: []float64{1}}, Beta: 0.5, Bytes: shipped, Plan: []int{0}}
			if got := Step(b, o); !sameBooks(got, b) {
				t.Errorf("Step of kind %d and shard %d: %v", kind, k, got)
			}
			o.Shard = 0
			for _, none := range [][]api.Book{nil, {}} {
				if got := Step(none, o); len(got) != 0 {
					t.Errorf("Step of no books, and kind %d: %v", kind, got)
				}
			}
		}
		if got := Step(b, api.Op{Kind: api.Merge, From: k}); !sameBooks(got, b) {
			t.Errorf("Step from shard %d: %v", k, got)
		}
		if got := Step(b, api.Op{Kind: api.Merge, Shard: k, From: 1}); !sameBooks(got, b) {
			t.Errorf("Step into shard %d: %v", k, got)
		}
	}
	// A book that may not be is left as it is, but a Load is another one.
	for i, wrong := range wrongBooks() {
		l := []api.Book{b[0], wrong}
		for _, o := range []api.Op{insertOf(1, 1, 2), removeOf(1, 1, 2), {Kind: api.Fade, Shard: 1, Beta: 1}, {Kind: api.Merge, From: 1}, {Kind: api.Merge, Shard: 1}, {Kind: api.Merge, Shard: 1, From: 1}} {
			if got := Step(l, o); !sameBooks(got, l) {
				t.Errorf("Step of wrong book %d, and %v: %v", i, o, got)
			}
		}
		if got := Step(l, api.Op{Kind: api.Load, Shard: 1, Bytes: shipped}); !sameBooks(got, []api.Book{b[0], b[0]}) {
			t.Errorf("Step of wrong book %d, loaded: %v", i, got)
		}
	}
}

// P23.3: each shard is held against its own book, and the first one that is not near is told.
func TestHolds(t *testing.T) {
	seed := drawer(4)
	for range 200 {
		s := seed.state()
		b := booksOf(t, s)
		if at, err := Holds(s, b); at != 0 || err != api.OK {
			t.Fatalf("Holds(%v): %d, %d", s, at, err)
		}
		for k := range s.Shards {
			c := kept(b)
			for behind := k; behind < len(b); behind++ {
				if behind == k || seed.below(2) == 0 {
					spoil(&seed, &c[behind])
				}
			}
			if at, err := Holds(s, c); at != k || err != api.ErrNear {
				t.Fatalf("Holds(%v, %v): %d, %d, not %d", s, c, at, err, k)
			}
		}
	}
}

// spoil makes b one to which its shard is not near.
func spoil(d *drawer, b *api.Book) {
	at := d.below(len(b.Net))
	switch d.below(6) {
	case 0:
		b.Rows = one(d, b.Rows+1, -1, 201)
	case 1:
		b.Turns = one(d, b.Turns+1, -1, 4097)
	case 2:
		b.Cols = b.Cols%6 + 1
	case 3:
		b.In[at] = api.Dyad{N: api.Nat{2}}
	case 4:
		*b = api.Book{}
	default:
		b.Net[at] = dyad.Add(b.Net[at], dyadOf(math.Ldexp(1, 900)))
	}
}

// P23.3: the document's example; a book that is as near as it has to be, and one that is not.
func TestHoldsByTheBound(t *testing.T) {
	s := api.State{Cols: 1, Shards: []api.Factor{{Cols: 1, Tri: []float64{3, 6, 1}, Rows: 2, Turns: 4}}}
	b := booksOf(t, s)
	s.Shards[0].Tri[0] = 3.5
	if at, err := Holds(s, b); at != 0 || err != api.ErrNear {
		t.Errorf("another first entry: %d, %d", at, err)
	}
	s.Shards[0].Tri[0] = 3
	for at := range 3 {
		corner := [][2]int{{0, 0}, {0, 2}, {2, 2}}[at]
		bound := near.Bound(b[0].In[corner[0]], b[0].In[corner[1]], 4)
		for _, sign := range []func(api.Dyad) api.Dyad{dyad.Abs, dyad.Neg} {
			c := kept(b)
			c[0].Net[at] = dyad.Add(b[0].Net[at], sign(bound))
			if k, err := Holds(s, c); k != 0 || err != api.OK {
				t.Errorf("place %d, just at the bound: %d, %d", at, k, err)
			}
			c[0].Net[at] = dyad.Add(c[0].Net[at], sign(dyadOf(math.Ldexp(1, -900))))
			if k, err := Holds(s, c); k != 0 || err != api.ErrNear {
				t.Errorf("place %d, beyond the bound: %d, %d", at, k, err)
			}
		}
	}
}

// P23.3: states that may not be, and books of another number.
func TestHoldsRefuses(t *testing.T) {
	for i, s := range wrongStates() {
		var b []api.Book
		for _, f := range s.Shards {
			c, _ := ledger.Of(f)
			b = append(b, c)
		}
		for _, l := range [][]api.Book{b, nil, append(kept(b), api.Book{})} {
			if at, err := Holds(s, l); at != 0 || err != api.ErrArg {
				t.Errorf("Holds of wrong state %d, %v: %d, %d", i, s, at, err)
			}
		}
	}
	seed := drawer(5)
	for range 50 {
		s := seed.state()
		b := booksOf(t, s)
		for n := range len(b) {
			if at, err := Holds(s, b[:n]); at != 0 || err != api.ErrArg {
				t.Errorf("Holds of %d books: %d, %d", n, at, err)
			}
		}
		// Told ahead of a shard that is not near.
		c := append(kept(b), b[0])
		c[0] = api.Book{}
		if at, err := Holds(s, c); at != 0 || err != api.ErrArg {
			t.Errorf("Holds of a book too many: %d, %d", at, err)
		}
	}
}

// ratio is d, by the library's numbers.
func ratio(d api.Dyad) *big.Rat {
	n := new(big.Int)
	for _, x := range slices.Backward(d.N) {
		n.Or(n.Lsh(n, 32), big.NewInt(int64(x)))
	}
	if d.Neg {
		n.Neg(n)
	}
	if d.Exp < 0 {
		return new(big.Rat).SetFrac(n, new(big.Int).Lsh(big.NewInt(1), uint(-d.Exp)))
	}
	return new(big.Rat).SetInt(n.Lsh(n, uint(d.Exp)))
}

// dyadBack is r, which is a whole number times a power of two, as a dyad.
func dyadBack(r *big.Rat) api.Dyad {
	if r.Sign() == 0 {
		return api.Dyad{}
	}
	n := new(big.Int).Abs(r.Num())
	zeros := n.TrailingZeroBits()
	n.Rsh(n, zeros)
	d := api.Dyad{Neg: r.Sign() < 0, Exp: int(zeros) - (r.Denom().BitLen() - 1)}
	for base := big.NewInt(1 << 32); n.Sign() > 0; {
		digit := new(big.Int)
		n.DivMod(n, base, digit)
		d.N = append(d.N, uint32(digit.Uint64()))
	}
	return d
}

// summed is the lists of side of the books that l names, and the ridge's squares, together, by the library's numbers.
func summed(b []api.Book, l []int, mu float64, side func(api.Book) []api.Dyad) []api.Dyad {
	var sum []*big.Rat
	cols := 0
	for _, k := range l {
		if k < 0 {
			continue
		}
		cols = b[k].Cols
		for i, d := range side(b[k]) {
			if len(sum) <= i {
				sum = append(sum, new(big.Rat))
			}
			sum[i].Add(sum[i], ratio(d))
		}
	}
	square := new(big.Rat).SetFloat64(mu)
	square.Mul(square, square)
	var out []api.Dyad
	for i := range cols {
		sum[diagonal(cols, i)].Add(sum[diagonal(cols, i)], square)
	}
	for _, r := range sum {
		out = append(out, dyadBack(r))
	}
	return out
}

// isNear says P23.4 over again, of books that may be.
func isNear(b []api.Book, o api.Op, a api.Answer) bool {
	net := summed(b, o.Plan, o.Mu, func(b api.Book) []api.Dyad { return b.Net })
	in := summed(b, o.Plan, o.Mu, func(b api.Book) []api.Dyad { return b.In })
	_, is := near.Normal(b[o.Plan[0]].Cols, net, in, a.Coefs, a.Turns)
	return is
}

// someBooks has books to which rows came in and went out, so that both of their lists are unlike.
func (d *drawer) someBooks(t *testing.T, cols, n int) (api.State, []api.Book) {
	t.Helper()
	s := fresh(t, cols, n)
	b := booksOf(t, s)
	for k := range n {
		var last api.Op
		for i := range cols + 3 {
			last = insertOf(k, d.float(0))
			for range cols {
				last.Row.X = append(last.Row.X, d.float(0))
			}
			if i == cols+2 {
				last.Row.Y *= 8
			}
			s, b = went(t, s, b, last)
		}
		last.Kind = api.Remove
		s, b = went(t, s, b, last)
	}
	return s, b
}

// went is the state and the books behind a thing that has to go.
func went(t *testing.T, s api.State, b []api.Book, o api.Op) (api.State, []api.Book) {
	t.Helper()
	next, _, err := engine.Do(s, o)
	if err != api.OK {
		t.Fatalf("Do(%v, %v): %d", s, o, err)
	}
	return next, Step(b, o)
}

// P23.4: an answer is moved in each place to where it is just near, and a little beyond.
func TestAnswerByTheBound(t *testing.T) {
	seed := drawer(6)
	for range 40 {
		cols, shards := 1+seed.below(4), 1+seed.below(4)
		s, b := seed.someBooks(t, cols, shards)
		steps := one(&seed, plan.Left, plan.Right, plan.Even)(shards)
		if seed.below(3) == 0 {
			steps = []int{seed.below(shards)}
		}
		o := solveOf(one(&seed, 0, 0, 0.3, 1, 17, highest), steps...)
		_, a, err := engine.Do(s, o)
		if err != api.OK || Answer(b, o, a) != api.OK || !isNear(b, o, a) {
			t.Fatalf("Answer(%v, %v, %v): %d", b, o, a, err)
		}
		for i := range a.Coefs {
			moved := func(by float64) api.Answer {
				c := a
				c.Coefs = slices.Clone(a.Coefs)
				c.Coefs[i] += by
				return c
			}
			in, out := 0.0, 1e9
			for range 80 {
				middle := in + (out-in)/2
				if isNear(b, o, moved(middle)) {
					in = middle
				} else {
					out = middle
				}
			}
			if Answer(b, o, moved(in)) != api.OK || Answer(b, o, moved(out)) != api.ErrNear {
				t.Errorf("Answer(%v, %v, %v) ends elsewhere than by %v to %v at %d", b, o, a, in, out, i)
			}
			more := moved(out)
			more.Turns *= 8
			if isNear(b, o, more) != (Answer(b, o, more) == api.OK) {
				t.Errorf("Answer(%v, %v, %v): not by as many rotations", b, o, more)
			}
		}
	}
}

// P23.4: by hand; a ridge of any size and sign counts by its square.
func TestAnswer(t *testing.T) {
	b := booksOf(t, api.State{Cols: 1, Shards: []api.Factor{{Cols: 1, Tri: []float64{3, 6, 0}, Rows: 1, Turns: 2}, {Cols: 1, Tri: []float64{4, 28, 1}, Rows: 2, Turns: 4}, {Cols: 1, Tri: []float64{1, 0, 5}, Rows: 2, Turns: 4}}})
	wide, _ := ledger.New(2)
	b = append(b, wide)
	told := func(turns int, coefs ...float64) api.Answer { return api.Answer{Coefs: coefs, Turns: turns} }
	for i, c := range []struct {
		o    api.Op
		a    api.Answer
		want api.Errno
	}{
		{solveOf(0, 0), told(0, 2), api.OK},
		{solveOf(0, 0), told(99999, 2), api.OK},
		{solveOf(0, 1), told(2, 7), api.OK},
		{solveOf(0, 1), told(2, 2), api.ErrNear},
		{solveOf(0, 0, 1, -1), told(7, 5.2), api.OK},
		{solveOf(0, 0, 1, -1), told(7, 2), api.ErrNear},
		{solveOf(0, 1, 0, -1), told(7, 5.2), api.OK},
		{solveOf(0, 0, 1, 2, -1, -1), told(7, 5), api.OK},
		{solveOf(0, 0, 1, 2, -1, -1), told(7, 5.2), api.ErrNear},
		{solveOf(3, 0), told(4, 1), api.OK},
		{solveOf(-3, 0), told(4, 1), api.OK},
		{solveOf(3, 0), told(4, 2), api.ErrNear},
		// In lists and plans that may not be shards may stand any number of times.
		{solveOf(0, 0, 1), told(7, 5.2), api.OK},
		{solveOf(0, 0, 0, 1, -1, -1), told(7, 232.0/52), api.ErrNear},
		{solveOf(0, 0, 0, 1, -1, -1), told(7, 148.0/34), api.OK},
		{solveOf(0, -2, 0, -9), told(7, 2), api.OK},
		// What no answer can be.
		{solveOf(0, 0), told(2), api.ErrNear},
		{solveOf(0, 0), told(2, 2, 2), api.ErrNear},
		{solveOf(0, 0), told(2, math.NaN()), api.ErrNear},
		{solveOf(0, 0), told(2, infinity), api.ErrNear},
		{solveOf(0, 0), told(-1, 2), api.ErrNear},
		{solveOf(0, 0), told(100000, 2), api.ErrNear},
		{solveOf(math.SmallestNonzeroFloat64, 0), told(2, 2), api.OK},
		{solveOf(math.MaxFloat64, 0), told(2, 0), api.OK},
		{solveOf(minusZero, 0), told(2, 2), api.OK},
		// Books of other columns.
		{solveOf(0, 3), told(2, 1, 1), api.OK},
		{solveOf(0, 3), told(2, 1), api.ErrNear},
	} {
		if err := Answer(b, c.o, c.a); err != c.want {
			t.Errorf("case %d: %d, not %d", i, err, c.want)
		}
	}
}

// P23.4: what no Solve can be, even beside answers that could not be near; what is not named is not looked at.
func TestAnswerRefuses(t *testing.T) {
	b := booksOf(t, api.State{Cols: 2, Shards: []api.Factor{{Cols: 2, Tri: []float64{2, 1, 5, 4, 8, 3}, Rows: 4, Turns: 12}, {Cols: 2, Tri: []float64{2, 0, 1, 4, 8, 3}, Rows: 4, Turns: 12}}})
	good := api.Answer{Coefs: []float64{1.5, 2}, Turns: 12}
	narrow, _ := ledger.New(1)
	refused := func(b []api.Book, o api.Op) {
		t.Helper()
		for _, a := range []api.Answer{good, {}, {Coefs: []float64{9, 9}, Turns: -1}} {
			if err := Answer(b, o, a); err != api.ErrArg {
				t.Errorf("Answer(%v, %v, %v): %d", b, o, a, err)
			}
		}
	}
	if err := Answer(b, solveOf(0, 0), good); err != api.OK {
		t.Errorf("%d", err)
	}
	for _, steps := range [][]int{nil, {}, {-1}, {-1, -1, -7, math.MinInt}, {2}, {0, 2, -1}, {2, 0, -1}, {0, math.MaxInt}} {
		refused(b, solveOf(0, steps...))
	}
	refused(nil, solveOf(0, 0))
	for _, mu := range []float64{infinity, -infinity, math.NaN()} {
		refused(b, solveOf(mu, 0))
	}
	for _, wrong := range append(wrongBooks(), narrow) {
		l := append(kept(b), wrong)
		if !ledger.Check(wrong) {
			refused(l, solveOf(0, 2))
		}
		refused(l, solveOf(0, 0, 2, -1))
		refused(l, solveOf(0, 2, 0, -1))
		refused(l, solveOf(0, 0, 1, 2, -1, -1))
		if err := Answer(l, solveOf(0, 0), good); err != api.OK {
			t.Errorf("beside %v: %d", wrong, err)
		}
	}
	// Of another kind nothing is asked, whatever is wrong.
	for _, kind := range []int{0, 1, 2, 3, 4, 5, 6, 8, 9, -7, math.MaxInt, math.MinInt} {
		for _, o := range []api.Op{{Kind: kind}, {Kind: kind, Plan: []int{5, 5}, Mu: math.NaN()}, {Kind: kind, Plan: []int{0}}} {
			for _, l := range [][]api.Book{nil, b, wrongBooks()} {
				if err := Answer(l, o, api.Answer{Coefs: []float64{math.NaN()}, Turns: -3}); err != api.OK {
					t.Errorf("Answer of kind %d: %d", kind, err)
				}
			}
		}
	}
}

// auditByWords says P23.5 over again.
func auditByWords(s api.State, l []api.Op) (int, api.Errno) {
	b, err := Books(s)
	if err != api.OK {
		return 0, err
	}
	for i := range l {
		next, done := replay.Play(s, l[i:i+1])
		s = next
		if done[0].Err != api.OK {
			continue
		}
		b = Step(b, l[i])
		if _, err := Holds(s, b); err != api.OK {
			return i, err
		}
		if err := Answer(b, l[i], done[0].Answer); err != api.OK {
			return i, err
		}
	}
	return len(l), api.OK
}

// P23.5: what does not go changes no book, as what is asked behind it tells.
func TestAudit(t *testing.T) {
	s := fresh(t, 1, 4)
	shipped, _ := snap.Encode(api.Factor{Cols: 1, Tri: []float64{5, 1, 2}, Rows: 3, Turns: 6})
	wide, _ := snap.Encode(api.Factor{Cols: 2, Tri: make([]float64, 6)})
	great, _ := snap.Encode(api.Factor{Cols: 1, Tri: []float64{greatest, greatest, greatest}})
	l := []api.Op{
		insertOf(0, 6, 3), insertOf(0, 1, 1), insertOf(1, 2, 0.1),
		removeOf(0, 1, 50), // ErrShed, though the book has no such error
		{Kind: api.Load, Shard: 1, Bytes: wide},
		{Kind: api.Merge, From: 0}, {Kind: api.Merge, From: 4},
		{Kind: api.Tell, Plan: []int{0}},
		{Kind: api.Merge, Shard: 1, From: 0},
		{Kind: api.Load, Shard: 0, Bytes: shipped},
		{Kind: api.Fade, Shard: 0, Beta: 0.3},
		{Kind: api.Load, Shard: 2, Bytes: great},
		{Kind: api.Load, Shard: 3, Bytes: great},
		insertOf(2, 1, highest),              // ErrRange on the way
		{Kind: api.Merge, Shard: 3, From: 2}, // likewise
		solveOf(0, 2, 3, -1), solveOf(0.5, 0, 1, -1), solveOf(0, 1),
		{}, {Kind: api.Insert, Shard: 9}, {Kind: api.Ship, Shard: 1}, removeOf(1, 1, 1),
	}
	_, d := replay.Play(s, l)
	want := []api.Errno{0, 0, 0, api.ErrShed, api.ErrSize, api.ErrArg, api.ErrArg, 0, 0, 0, 0, 0, 0, api.ErrRange, api.ErrRange, api.ErrRange, 0, 0, api.ErrArg, api.ErrArg, 0, 0}
	for i, x := range d {
		if x.Err != want[i] {
			t.Errorf("thing %d: %d, not %d", i, x.Err, want[i])
		}
		if n, err := Audit(s, l[:i]); n != i || err != api.OK {
			t.Errorf("Audit of %d things: %d, %d", i, n, err)
		}
	}
	if n, err := Audit(s, l); n != len(l) || err != api.OK {
		t.Errorf("Audit: %d, %d", n, err)
	}
	for i, s := range wrongStates() {
		for _, l := range [][]api.Op{l, nil} {
			if n, err := Audit(s, l); n != 0 || err != api.ErrArg {
				t.Errorf("Audit of wrong state %d: %d, %d", i, n, err)
			}
		}
	}
}

// P23.5: a ledger can be faded until its numbers are no dyads any more. What then is not near is told, at its place: a shard at the fade, an answer, if that comes first, at the Solve.
func TestAuditTellsTheFirstPlace(t *testing.T) {
	beta := 1 - 0x1p-53
	s := api.State{Cols: 1, Shards: []api.Factor{{Cols: 1, Tri: []float64{1, 0, 0}}, {Cols: 1, Tri: []float64{math.Ldexp(1+0x1p-52, -25), 1, 0}, Rows: 2}}}
	fades := slices.Repeat([]api.Op{{Kind: api.Fade, Shard: 1, Beta: beta}}, 192)
	atFade, err := Audit(s, fades)
	if err != api.ErrNear || atFade < 150 || atFade == len(fades) {
		t.Fatalf("%d, %d", atFade, err)
	}
	// What does not go, and what goes of another shard, ahead of it.
	later := slices.Concat([]api.Op{insertOf(0, 1, 2), {}, solveOf(0, 1)}, fades, []api.Op{{Kind: api.Ship}})
	if n, err := Audit(s, later); n != atFade+3 || err != api.ErrNear {
		t.Errorf("%d, %d, not %d", n, err, atFade+3)
	}
	answers := map[api.Errno]int{}
	for n := atFade - 6; n <= atFade+2; n++ {
		for _, mu := range []float64{0, 1} {
			l := append(slices.Clone(fades[:n]), solveOf(mu, 0), solveOf(mu, 1), solveOf(mu, 0))
			at, err := Audit(s, l)
			wantAt, want := auditByWords(s, l)
			if at != wantAt || err != want {
				t.Errorf("Audit of %d fades: %d, %d, not %d, %d", n, at, err, wantAt, want)
			}
			if n <= atFade && err != api.OK && at != n+1 {
				t.Errorf("Audit of %d fades: %d, %d", n, at, err)
			}
			if n <= atFade {
				answers[err]++
			}
		}
	}
	if answers[api.OK] == 0 || answers[api.ErrNear] == 0 {
		t.Errorf("%v", answers)
	}
}

// things are some of each kind, of which most may go; rows are often such as came in.
func (d *drawer) things(s api.State, n int) []api.Op {
	var l []api.Op
	shards := len(s.Shards)
	bytes, _ := snap.Encode(s.Shards[0])
	exp := one(d, 0, 0, 0, -400, 398)
	for range n {
		o := api.Op{Kind: one(d, 1, 1, 1, 1, 1, 2, 2, 3, 4, 5, 6, 7, 7, 7, 8, 9), Shard: d.below(shards), From: d.below(shards), Bytes: bytes}
		o.Beta = one(d, 0.5, 1, leastBeta, 0.75, math.Abs(d.float(-1-d.below(19))))
		o.Mu = one(d, 0, 0, 0, 1, 1e-9, lowest, highest)
		o.Row.Y = d.float(exp)
		for range s.Cols {
			o.Row.X = append(o.Row.X, one(d, d.float(exp), d.float(exp), d.float(exp+1), 0, o.Row.Y, d.float(exp+one(d, 0, 0, 0, 0, 0, 0, 0, 402))))
		}
		if len(l) > 0 && d.below(2) == 0 {
			before := l[d.below(len(l))]
			o.Row, o.Shard = before.Row, before.Shard
		}
		m := 1 + d.below(shards)
		o.Plan = one(d, plan.Left, plan.Right, plan.Even)(m)
		for i, k := range o.Plan {
			if k >= 0 {
				o.Plan[i] = (k + o.Shard) % shards
			}
		}
		l = append(l, o)
	}
	return l
}

// P23.5, P23.6: of whatever state and things all is near.
func TestAllIsNear(t *testing.T) {
	seed := drawer(7)
	count := map[[2]int]int{}
	for range 250 {
		s := seed.state()
		l := seed.things(s, 30)
		n, err := Audit(s, l)
		if n != len(l) || err != api.OK {
			t.Fatalf("Audit(%v, %v): %d, %d", s, l, n, err)
		}
		_, d := replay.Play(s, l)
		for i, x := range d {
			count[[2]int{l[i].Kind, int(x.Err)}]++
		}
	}
	for kind := api.Insert; kind <= api.Tell; kind++ {
		if count[[2]int{kind, 0}] < 50 {
			t.Errorf("of kind %d %d went", kind, count[[2]int{kind, 0}])
		}
	}
	for _, c := range [][2]int{{2, 8}, {2, 5}, {7, 7}, {1, 2}, {8, 5}, {9, 1}} {
		if count[c] == 0 {
			t.Errorf("of kind %d none was told %d", c[0], c[1])
		}
	}
}

// P23.6: rotations to the end of what may be, of one shard, row in and row out.
func TestAllIsNearToTheEnd(t *testing.T) {
	seed := drawer(8)
	for _, cols := range []int{1, 6} {
		s := fresh(t, cols, 1)
		var l []api.Op
		for i := range 4096/(cols+1) + 3 {
			o := insertOf(0, seed.float(0))
			for range cols {
				o.Row.X = append(o.Row.X, seed.float(0))
			}
			if len(l) > 20 && i%2 == 0 {
				o = l[i-7]
				o.Kind = api.Remove
			}
			l = append(l, o)
		}
		l = append(l, solveOf(0, 0))
		if n, err := Audit(s, l); n != len(l) || err != api.OK {
			t.Errorf("of %d columns: %d, %d", cols, n, err)
		}
		last, _ := replay.Play(s, l)
		if last.Shards[0].Turns < 4096-cols {
			t.Errorf("of %d columns: %d rotations", cols, last.Shards[0].Turns)
		}
	}
}

// scribble changes all that l has, digits and all.
func scribble(l []api.Book) {
	for k := range l {
		for _, list := range [][]api.Dyad{l[k].Net, l[k].In} {
			for i := range list {
				for n := range list[i].N {
					list[i].N[n] = ^list[i].N[n]
				}
				list[i] = api.Dyad{Neg: true, N: api.Nat{7}, Exp: 3}
			}
		}
		l[k].Rows, l[k].Turns, l[k].Cols = -1, -2, -3
	}
}

// R5, R6: what is handed in is not changed, no answer shares its memory, and the same is answered again.
func TestAnswersAreNewMemory(t *testing.T) {
	seed := drawer(10)
	for range 300 {
		cols := 1 + seed.below(6)
		s := api.State{Cols: cols}
		for range 1 + seed.below(3) {
			s.Shards = append(s.Shards, seed.factor(cols, 30, 0))
		}
		was := keptState(s)
		b := booksOf(t, s)
		first := kept(b)
		o := seed.anyOp(cols, len(b))
		x, steps := slices.Clone(o.Row.X), slices.Clone(o.Plan)
		c := Step(b, o)
		want := kept(c)
		scribble(c)
		if !sameBooks(b, first) || !slices.Equal(o.Row.X, x) {
			t.Fatalf("Step(%v, %v) changed what was handed in, or shares it", first, o)
		}
		if !sameBooks(Step(b, o), want) {
			t.Fatalf("Step(%v, %v) again is not the same", first, o)
		}
		for k := range want {
			c = Step(b, o)
			scribble(c[k : k+1])
			if again := put(c, k, want[k]); !sameBooks(again, want) {
				t.Fatalf("Step(%v, %v): its books share memory", first, o)
			}
			c = Step(b, o)
			scribble([]api.Book{{Net: c[k].Net}})
			if !sameList(c[k].In, want[k].In) {
				t.Fatalf("Step(%v, %v): a book's lists share memory", first, o)
			}
		}
		a := api.Answer{Coefs: []float64{1, 2}, Turns: 3}
		l := []api.Op{o, solveOf(0.5, 0), o}
		Holds(s, b)
		Answer(b, l[1], a)
		Audit(s, l)
		scribble(booksOf(t, s))
		if !sameBooks(b, first) || !slices.Equal(o.Row.X, x) || !slices.Equal(o.Plan, steps) || !slices.Equal(a.Coefs, []float64{1, 2}) || !sameBooks(booksOf(t, s), booksOf(t, was)) {
			t.Fatalf("%v, %v, %v were changed", first, o, was)
		}
	}
}

// R1: beyond the bound nothing panics.
func TestBeyondTheBound(t *testing.T) {
	for _, exp := range []int{20000, -20000} {
		list := slices.Repeat([]api.Dyad{{N: api.Nat{3, 1<<32 - 1}, Exp: exp}}, 3)
		other := slices.Repeat([]api.Dyad{{Neg: true, N: api.Nat{1<<32 - 1}, Exp: -exp}}, 3)
		b := []api.Book{{Cols: 1, Net: list, In: other, Rows: 1}, {Cols: 1, Net: other, In: list, Rows: 1}}
		shipped, _ := snap.Encode(api.Factor{Cols: 1, Tri: []float64{0, 0, 0}})
		for _, o := range []api.Op{insertOf(0, lowest, highest), removeOf(0, highest, lowest), {Kind: api.Fade, Beta: 0.3}, {Kind: api.Merge, From: 1}, {Kind: api.Load, Bytes: shipped}} {
			for _, c := range Step(b, o) {
				if !ledger.Check(c) {
					t.Errorf("Step of %v: %v", o, c)
				}
			}
		}
		Answer(b, solveOf(math.MaxFloat64, 0, 1, -1), api.Answer{Coefs: []float64{math.MaxFloat64}, Turns: 99999})
		Holds(api.State{Cols: 1, Shards: []api.Factor{{Cols: 1, Tri: []float64{1, 1, 1}, Rows: 1}, {Cols: 1, Tri: []float64{1, 1, 1}, Rows: 1}}}, b)
	}
}
