package own

import (
	"math"
	"slices"
	"testing"

	"levelling/api"
)

func sameBits(a, b []float64) bool {
	return slices.EqualFunc(a, b, func(a, b float64) bool { return math.Float64bits(a) == math.Float64bits(b) })
}

// odd has floats whose bits are easily lost.
func odd() []float64 {
	return []float64{0, math.Copysign(0, -1), math.Inf(-1), math.Float64frombits(0xfff8000000000123), math.SmallestNonzeroFloat64}
}

func TestState(t *testing.T) {
	tri := odd()
	s := api.State{Cols: -3, Shards: []api.Factor{{Cols: 1, Tri: tri, Rows: 2, Turns: 3}, {Cols: 9, Tri: tri, Rows: -4, Turns: 5}, {}}}
	c := State(s)
	if c.Cols != -3 || len(c.Shards) != 3 {
		t.Fatalf("%v", c)
	}
	for k, f := range c.Shards {
		if g := s.Shards[k]; f.Cols != g.Cols || f.Rows != g.Rows || f.Turns != g.Turns || !sameBits(f.Tri, g.Tri) {
			t.Errorf("shard %d: %v", k, f)
		}
	}
	c.Shards[0].Tri[1] = 7
	c.Shards[2].Rows = 8
	if !sameBits(tri, odd()) || s.Shards[2].Rows != 0 || !sameBits(c.Shards[1].Tri, odd()) {
		t.Errorf("the copy shares memory: %v, %v", s, c)
	}
	if c := State(api.State{}); c.Cols != 0 || len(c.Shards) != 0 {
		t.Errorf("of the zero one: %v", c)
	}
}

func TestOp(t *testing.T) {
	o := api.Op{Kind: 1, Shard: 2, From: 3, Row: api.Row{X: odd(), Y: 4}, Beta: 5, Mu: 6, Plan: []int{7, -1}, Bytes: "8"}
	c := Op(o)
	if c.Kind != 1 || c.Shard != 2 || c.From != 3 || !sameBits(c.Row.X, odd()) || c.Row.Y != 4 || c.Beta != 5 || c.Mu != 6 || !slices.Equal(c.Plan, []int{7, -1}) || c.Bytes != "8" {
		t.Fatalf("%v", c)
	}
	c.Row.X[0], c.Plan[0] = 9, 9
	if !sameBits(o.Row.X, odd()) || o.Plan[0] != 7 {
		t.Errorf("the copy shares memory: %v", o)
	}
}

func TestBooks(t *testing.T) {
	list := func() []api.Dyad {
		return []api.Dyad{{Neg: true, N: api.Nat{1, 2, 0}, Exp: 3}, {Exp: -4}, {N: api.Nat{5}}}
	}
	same := func(a, b []api.Dyad) bool {
		return slices.EqualFunc(a, b, func(a, b api.Dyad) bool {
			return a.Neg == b.Neg && a.Exp == b.Exp && slices.Equal(a.N, b.N)
		})
	}
	shared := list()
	l := []api.Book{{Cols: 1, Net: shared, In: shared, Rows: 2, Turns: 3}, {Cols: -9, Net: shared, Rows: -4, Turns: 5}, {}}
	c := Books(l)
	if len(c) != 3 {
		t.Fatalf("%v", c)
	}
	for k, b := range c {
		if d := l[k]; b.Cols != d.Cols || b.Rows != d.Rows || b.Turns != d.Turns || !same(b.Net, d.Net) || !same(b.In, d.In) {
			t.Errorf("book %d: %v", k, b)
		}
	}
	c[0].Net[0].N[1] = 7
	c[0].Net[1].Exp = 8
	c[2].Rows = 9
	if !same(shared, list()) || !same(c[0].In, list()) || !same(c[1].Net, list()) || l[2].Rows != 0 {
		t.Errorf("the copy shares memory: %v, %v", l, c)
	}
	if c := Books(nil); len(c) != 0 {
		t.Errorf("of none: %v", c)
	}
}
