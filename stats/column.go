package stats

import (
	"levelling/api"
	"levelling/tri"
)

// squares is a sum of squares, from +0 on.
type squares struct {
	sum float64
}

// add counts on by the square of x, which is rounded ahead of that.
func (s *squares) add(x float64) {
	s.sum += float64(x * x)
}

// total is what the squares have come to.
func (s *squares) total() float64 {
	return s.sum
}

// column is the last column of a factor that may be, and the squares of what is taken from it.
type column struct {
	squares
	f api.Factor
}

// entry is that of row i.
func (c *column) entry(i int) float64 {
	return tri.Get(c.f, i, c.f.Cols)
}

// last is the entry on the diagonal, which no answers make less.
func (c *column) last() float64 {
	return c.entry(c.f.Cols)
}

// left is what the answers x leave of row i's entry.
func (c *column) left(i int, x []float64) float64 {
	left := c.entry(i)
	for k := i; k < c.f.Cols; k++ {
		left -= float64(tri.Get(c.f, i, k) * x[k])
	}
	return left
}

// restOf is what is left over by the best answers.
func restOf(f api.Factor) float64 {
	c := column{f: f}
	c.add(c.last())
	return c.total()
}

// totalOf is what there is without any answers.
func totalOf(f api.Factor) float64 {
	c := column{f: f}
	for i := range f.Cols + 1 {
		c.add(c.entry(i))
	}
	return c.total()
}

// missOf is what is left over by the answers x.
func missOf(f api.Factor, x []float64) float64 {
	c := column{f: f}
	for i := range f.Cols {
		c.add(c.left(i, x))
	}
	c.add(c.last())
	return c.total()
}
