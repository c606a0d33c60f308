package near

import (
	"levelling/api"
	"levelling/dyad"
)

// norms has the norm of each column, from above; where there is no column, 0, which adds nothing.
type norms [api.MaxCols + 1]api.Dyad

// normsOf is the norms of so many columns, and of the last one, by in, which has an entry for each two of them.
func normsOf(cols int, in []api.Dyad) norms {
	var all norms
	for i := range cols + 1 {
		all[i] = Up(entry(cols, in, i, i))
	}
	return all
}

// allowed is how much answers may leave over for column i, behind k rotations.
func (n norms) allowed(coefs []api.Dyad, i int, k int) api.Dyad {
	most := bound(n[i], n[len(coefs)], k)
	for j, x := range coefs {
		most = dyad.Add(most, dyad.Mul(bound(n[i], n[j], k), dyad.Abs(x)))
	}
	return dyad.Add(most, n.vanished(i))
}

// vanished is what may be lost for column i where floats are too small to have all their bits.
func (n norms) vanished(i int) api.Dyad {
	least := whole(1, vanishExp)
	sizes := dyad.Add(whole(1, 0), total(n[:]...))
	return dyad.Mul(dyad.Mul(least, dyad.Add(n[i], least)), sizes)
}
