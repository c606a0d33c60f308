package inverse

import (
	"math"
	"slices"

	"levelling/api"
	"levelling/bits"
	"levelling/tri"
)

// Rows are brought near to 1 by powers of two of these exponents at most, which all are floats, and so are those that lead back.
const mostPower = 1000

// square is a square part, or an inverse: its rows, each from its diagonal on.
type square []line

// line is a row's entries, or a column's, or what such lines come to.
type line []float64

// partOf is the square part of f, which may be.
func partOf(f api.Factor) square {
	s := make(square, f.Cols)
	for i := range s {
		s[i] = tri.Line(f, i)[i:f.Cols]
	}
	return s
}

// at is the entry of row i and column j, which is not ahead of the diagonal.
func (s square) at(i int, j int) float64 {
	return s[i][j-i]
}

// row is row i, from the diagonal on.
func (s square) row(i int) line {
	return s[i]
}

// column is column j, down to the diagonal.
func (s square) column(j int) line {
	l := make(line, j+1)
	for i := range l {
		l[i] = s.at(i, j)
	}
	return l
}

// each is what the lines of s come to: get is how to take one, and tell what one comes to.
func (s square) each(get func(square, int) line, tell func(line) float64) line {
	l := make(line, len(s))
	for i := range l {
		l[i] = tell(get(s, i))
	}
	return l
}

// one is the greatest of the columns' sums.
func (s square) one() float64 {
	return slices.Max(s.each(square.column, line.sum))
}

// singular tells whether an entry on the diagonal is 0.
func (s square) singular() bool {
	for i := range s {
		if s.at(i, i) == 0 {
			return true
		}
	}
	return false
}

// inverted is the inverse of s, which has no 0 on its diagonal.
func (s square) inverted() square {
	inv := make(square, len(s))
	for i := range inv {
		inv[i] = make(line, len(s)-i)
	}
	for j := range s {
		inv[j][0] = 1 / s.at(j, j)
		for i := j - 1; i >= 0; i-- {
			left := 0.0
			for k := i + 1; k <= j; k++ {
				left -= float64(s.at(i, k) * inv.at(k, j))
			}
			inv[i][j-i] = left / s.at(i, i)
		}
	}
	return inv
}

// numbers tells whether no entry is an infinity or NaN.
func (s square) numbers() bool {
	for _, l := range s {
		if !l.numbers() {
			return false
		}
	}
	return true
}

// numbers tells whether no one of l is an infinity or NaN.
func (l line) numbers() bool {
	for _, x := range l {
		if math.IsInf(x, 0) || math.IsNaN(x) {
			return false
		}
	}
	return true
}

// sum is that of the sizes of l.
func (l line) sum() float64 {
	sum := 0.0
	for _, x := range l {
		sum += math.Abs(x)
	}
	return sum
}

// size is the root of the sum of the squares of l.
func (l line) size() float64 {
	k := l.power()
	down, sum := bits.Pow(-k), 0.0
	for _, x := range l {
		y := float64(x * down)
		sum += float64(y * y)
	}
	return float64(math.Sqrt(sum) * bits.Pow(k))
}

// power is the exponent of the power of two that l is divided by, so that its squares are near to no end of the floats.
func (l line) power() int {
	k := -mostPower
	for _, x := range l {
		k = max(k, bits.Top(x))
	}
	return min(k, mostPower)
}
