package audit

import (
	"levelling/api"
	"levelling/dyad"
	"levelling/gram"
	"levelling/ledger"
	"levelling/plan"
	"levelling/tri"
)

// pile is the lists of books, all together.
type pile struct {
	cols int
	net  []api.Dyad
	in   []api.Dyad
}

// newPile is one without books, for such of so many columns.
func newPile(cols int) *pile {
	return &pile{cols, gram.Zero(cols), gram.Zero(cols)}
}

// add lays b, which has as many columns, on p.
func (p *pile) add(b api.Book) {
	p.lay(b.Net, b.In)
}

// addRidge adds mu's square at each place of the diagonal but the last one.
func (p *pile) addRidge(mu api.Dyad) {
	squares := gram.Zero(p.cols)
	for i := range p.cols {
		at, _ := tri.At(p.cols, i, i)
		squares[at] = dyad.Mul(mu, mu)
	}
	p.lay(squares, squares)
}

// lay adds lists of as many entries as p's have.
func (p *pile) lay(net []api.Dyad, in []api.Dyad) {
	p.net, _ = gram.Add(p.net, net)
	p.in, _ = gram.Add(p.in, in)
}

// each does something with each of l, in order.
func each(l []api.Book, do func(b api.Book)) {
	for _, b := range l {
		do(b)
	}
}

// named are those of b that a plan names, as often as it does, if there is one, and all of them may be, and are of as many columns.
func named(b []api.Book, steps []int) ([]api.Book, bool) {
	var l []api.Book
	for _, k := range plan.Order(steps) {
		if !isBook(b, k) || !ledger.Check(b[k]) {
			return nil, false
		}
		l = append(l, b[k])
		if b[k].Cols != l[0].Cols {
			return nil, false
		}
	}
	return l, len(l) > 0
}
