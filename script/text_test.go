package script

import (
	"math"
	"strconv"
	"strings"
)

// floatText is a float's word, mostly of a number that rows may have.
func (d *drawer) floatText(exp int) string {
	switch d.below(40) {
	case 0:
		return one(d, "0", "-0", "1p401", "1p-401", "1p1023", "-1p-1074", "1p400", "-1p400", "1p-400")
	case 1, 2, 3, 4:
		return strconv.Itoa(d.below(9) - 4)
	}
	return Write(d.float(exp))
}

// rowText is a row's words, now and then of one entry too many, or too few.
func (d *drawer) rowText(cols int, exp int) string {
	n := cols + 1
	if d.below(20) == 0 {
		n = one(d, cols, cols+2)
	}
	var words []string
	for range n {
		words = append(words, d.floatText(exp+d.below(3)))
	}
	if n > 2 && d.below(6) == 0 {
		words[1] = words[0] // columns that lean on one another
	}
	return strings.Join(words, " ")
}

func (d *drawer) shardText(shards int) string {
	if d.below(25) == 0 {
		return one(d, strconv.Itoa(shards), "9999")
	}
	return strconv.Itoa(d.below(shards))
}

// planText is mostly one of some shards that may be, in any tree.
func (d *drawer) planText(shards int) string {
	first, n := d.below(shards), 1+d.below(shards)
	words, open := []string{}, 0
	for k := range n {
		words = append(words, strconv.Itoa((first+k)%shards))
		open++
		for open > 1 && d.below(2) == 0 {
			words = append(words, "+")
			open--
		}
	}
	for ; open > 1; open-- {
		words = append(words, "+")
	}
	if d.below(15) == 0 {
		words = append(words, one(d, "+", "0", "9999"))
	}
	return strings.Join(words, " ")
}

func (d *drawer) betaText() string {
	return one(d, "1", "1p-1", "1p-20", "3p-2", Write(math.Abs(d.float(-1-d.below(19)))), Write(math.Abs(d.float(-1))), one(d, "0", "-1p-1", "2", "1p-21", "-0"))
}

func (d *drawer) ridgeText() string {
	return one(d, "0", "0", "0", "1", "1p-30", Write(math.Abs(d.float(0))), one(d, "1p400", "1p-400"), one(d, "-0", "-1", "1p401"))
}

// text is one that can be read, of so many things, of which most may go.
func (d *drawer) text(things int) string {
	cols, shards := 1+d.below(6), 1+d.below(5)
	exp := one(d, 0, 0, 0, 0, 30, -30, 396, -400)
	lines := []string{"levelling " + strconv.Itoa(cols) + " " + strconv.Itoa(shards)}
	var rows, ships []string
	for n := range things {
		shard := d.shardText(shards)
		row := shard + " " + d.rowText(cols, exp)
		if len(rows) > 0 && d.below(3) == 0 {
			row = one(d, rows...)
		}
		load := strconv.Itoa(d.below(things))
		if len(ships) > 0 && d.below(3) > 0 {
			load = one(d, ships...)
		}
		line := one(d, "in "+row, "in "+row, "in "+row, "in "+row, "in "+row, "in "+row, "out "+row, "out "+row,
			"fade "+shard+" "+d.betaText(), "merge "+shard+" "+d.shardText(shards), "ship "+shard, "load "+shard+" "+load,
			"solve "+d.ridgeText()+" "+d.planText(shards), "solve "+d.ridgeText()+" "+d.planText(shards), "tell "+d.planText(shards))
		switch {
		case strings.HasPrefix(line, "in "):
			rows = append(rows, row)
		case strings.HasPrefix(line, "ship "):
			ships = append(ships, strconv.Itoa(n))
		}
		lines = append(lines, line)
	}
	return strings.Join(lines, "\n") + one(d, "", "\n")
}
