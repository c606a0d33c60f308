// Package own makes copies that share no memory with what they were made of: an answer is nobody else's.
package own

import (
	"slices"

	"levelling/api"
)

// State is s, with all its bits, whether it may be or not.
func State(s api.State) api.State {
	s.Shards = slices.Clone(s.Shards)
	for k := range s.Shards {
		s.Shards[k].Tri = slices.Clone(s.Shards[k].Tri)
	}
	return s
}

// Op is o, with all its bits.
func Op(o api.Op) api.Op {
	o.Row.X = slices.Clone(o.Row.X)
	o.Plan = slices.Clone(o.Plan)
	return o
}

// Books are l, digits and all, whether they may be or not.
func Books(l []api.Book) []api.Book {
	l = slices.Clone(l)
	for k := range l {
		l[k].Net, l[k].In = dyads(l[k].Net), dyads(l[k].In)
	}
	return l
}

// dyads are l, digits and all.
func dyads(l []api.Dyad) []api.Dyad {
	l = slices.Clone(l)
	for i := range l {
		l[i].N = slices.Clone(l[i].N)
	}
	return l
}
