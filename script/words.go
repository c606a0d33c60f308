package script

import (
	"strings"

	"levelling/api"
	"levelling/engine"
)

// words are those of a line that were not yet read, and what was wrong with those that were.
type words struct {
	left []string
	err  error
}

// wordsOf is those of a line: beside a blank that is one too many there is an empty one.
func wordsOf(line string) *words {
	return &words{left: strings.Split(line, " ")}
}

// next is the next word. Behind the last one it is empty, and so none that may stand there.
func (w *words) next() string {
	if len(w.left) == 0 {
		return ""
	}
	word := w.left[0]
	w.left = w.left[1:]
	return word
}

// hold says whether what was read may be.
func (w *words) hold(is bool) {
	if !is {
		w.err = errWord
	}
}

// end is what was wrong with the line; words that are left are.
func (w *words) end() error {
	w.hold(len(w.left) == 0)
	return w.err
}

// number is a shard's, or a thing's.
func (w *words) number() int {
	n, is := unsigned(w.next(), numberDigits)
	w.hold(is)
	return int(n)
}

// float is that whose word stands next.
func (w *words) float() float64 {
	x, is := Float(w.next())
	w.hold(is)
	return x
}

// step is one of a plan.
func (w *words) step() int {
	if len(w.left) > 0 && w.left[0] == "+" {
		w.next()
		return -1
	}
	return w.number()
}

// steps are all that are left.
func (w *words) steps() []int {
	var l []int
	for len(w.left) > 0 {
		l = append(l, w.step())
	}
	return l
}

// row is all floats that are left, one or more.
func (w *words) row() api.Row {
	var x []float64
	for len(w.left) > 1 {
		x = append(x, w.float())
	}
	return api.Row{X: x, Y: w.float()}
}

// state is that which a text's first line makes.
func state(line string) (api.State, error) {
	w := wordsOf(line)
	w.hold(w.next() == "levelling")
	cols := w.number()
	shards := w.number()
	s, err := engine.New(cols, shards)
	w.hold(err == api.OK)
	if err := w.end(); err != nil {
		return api.State{}, err
	}
	return s, nil
}

// thing is what a line behind the first one asks for.
func thing(line string) (api.Op, error) {
	w := wordsOf(line)
	o := w.op()
	if err := w.end(); err != nil {
		return api.Op{}, err
	}
	return o, nil
}

// op is what the words ask for, if they may all stand there.
func (w *words) op() api.Op {
	o := api.Op{}
	switch w.next() {
	case "in":
		o.Kind = api.Insert
		o.Shard = w.number()
		o.Row = w.row()
	case "out":
		o.Kind = api.Remove
		o.Shard = w.number()
		o.Row = w.row()
	case "fade":
		o.Kind = api.Fade
		o.Shard = w.number()
		o.Beta = w.float()
	case "merge":
		o.Kind = api.Merge
		o.Shard = w.number()
		o.From = w.number()
	case "ship":
		o.Kind = api.Ship
		o.Shard = w.number()
	case "load":
		o.Kind = api.Load
		o.Shard = w.number()
		o.From = w.number()
	case "solve":
		o.Kind = api.Solve
		o.Mu = w.float()
		o.Plan = w.steps()
	case "tell":
		o.Kind = api.Tell
		o.Plan = w.steps()
	default:
		w.hold(false)
	}
	return o
}
