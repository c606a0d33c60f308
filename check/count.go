package check

import (
	"levelling/api"
	"levelling/merge"
	"levelling/snap"
)

// count is how many rows and rotations a shard has, or would have.
type count struct {
	rows  int
	turns int
}

// of is the count of shard k, which is one of s.
func of(s api.Shape, k int) count {
	return count{s.Rows[k], s.Turns[k]}
}

// set makes c the count of shard k, which is one of s.
func set(s api.Shape, k int, c count) {
	s.Rows[k], s.Turns[k] = c.rows, c.turns
}

// behind is the count that o's shard would have behind o; its numbers, and what it asks for, are those of s.
func behind(s api.Shape, o api.Op) count {
	c := of(s, o.Shard)
	more := 1
	switch o.Kind {
	case api.Remove:
		more = -1
		fallthrough // it asks for a row, too, and for as many rotations
	case api.Insert:
		c.rows += more
		c.turns += s.Cols + 1
	case api.Fade:
		c.turns++
	case api.Merge:
		from := of(s, o.From)
		c = count{c.rows + from.rows, max(c.turns, from.turns) + merge.Cost(s.Cols)}
	case api.Load:
		f, _ := snap.Decode(o.Bytes)
		c = count{f.Rows, f.Turns}
	}
	return c
}

// wrong is what is wrong with c. Too few rows are told ahead of too many rotations.
func (c count) wrong() error {
	switch {
	case c.rows < 0:
		return refuse("rows", api.ErrFew)
	case c.rows > api.MaxRows:
		return refuse("rows", api.ErrFull)
	case c.turns > api.MaxTurns:
		return refuse("rotations", api.ErrFull)
	}
	return nil
}
