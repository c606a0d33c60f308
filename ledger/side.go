package ledger

import (
	"levelling/api"
	"levelling/gram"
)

// side is one of a book's two lists.
type side func(b api.Book) []api.Dyad

func net(b api.Book) []api.Dyad { return b.Net }

func in(b api.Book) []api.Dyad { return b.In }

// both is b with the lists that count tells of each side. It is asked twice even where both are the same, so that the two lists share no memory.
func both(b api.Book, count func(of side) []api.Dyad) api.Book {
	b.Net, b.In = count(net), count(in)
	return b
}

// together is a and b, which have as many entries.
func together(a []api.Dyad, b []api.Dyad) []api.Dyad {
	list, _ := gram.Add(a, b)
	return list
}

// copied is b, which may be, in memory of its own: its dyads' digits are lists, too.
func copied(b api.Book) api.Book {
	return both(b, func(of side) []api.Dyad { return together(of(b), gram.Zero(b.Cols)) })
}
