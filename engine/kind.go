package engine

import (
	"slices"

	"levelling/absorb"
	"levelling/api"
	"levelling/fade"
	"levelling/merge"
	"levelling/plan"
	"levelling/shed"
	"levelling/snap"
	"levelling/solve"
	"levelling/stats"
	"levelling/tri"
)

// kind is one kind of what can be asked, and how it is done: of a state that may be, and a thing with which check finds nothing wrong. What is handed to do is not changed by it: beside an error it is still the answer.
type kind struct {
	number int
	do     func(s api.State, o api.Op) (api.State, teller, api.Errno)
}

// kinds are all that there are.
func kinds() []kind {
	return []kind{
		{api.Insert, insert},
		{api.Remove, remove},
		{api.Fade, fadeOne},
		{api.Merge, mergeTwo},
		{api.Ship, ship},
		{api.Load, load},
		{api.Solve, solvePlan},
		{api.Tell, tellPlan},
	}
}

// kindOf is o's kind, which is one of those that there are.
func kindOf(o api.Op) kind {
	all := kinds()
	at := slices.IndexFunc(all, func(k kind) bool { return k.number == o.Kind })
	return all[at]
}

// with is s with f as its shard k.
func with(s api.State, k int, f api.Factor) api.State {
	s.Shards = slices.Clone(s.Shards)
	s.Shards[k] = f
	return s
}

func insert(s api.State, o api.Op) (api.State, teller, api.Errno) {
	f, err := absorb.Row(s.Shards[o.Shard], o.Row)
	return with(s, o.Shard, f), silence{}, err
}

func remove(s api.State, o api.Op) (api.State, teller, api.Errno) {
	f, err := shed.Row(s.Shards[o.Shard], o.Row)
	return with(s, o.Shard, f), silence{}, err
}

func fadeOne(s api.State, o api.Op) (api.State, teller, api.Errno) {
	f, err := fade.Factor(s.Shards[o.Shard], o.Beta)
	return with(s, o.Shard, f), silence{}, err
}

func mergeTwo(s api.State, o api.Op) (api.State, teller, api.Errno) {
	f, err := merge.Two(s.Shards[o.Shard], s.Shards[o.From])
	empty, _ := tri.New(s.Cols)
	return with(with(s, o.Shard, f), o.From, empty), silence{}, err
}

func ship(s api.State, o api.Op) (api.State, teller, api.Errno) {
	bytes, _ := snap.Encode(s.Shards[o.Shard])
	return s, shipment(bytes), api.OK
}

func load(s api.State, o api.Op) (api.State, teller, api.Errno) {
	f, err := snap.Decode(o.Bytes)
	return with(s, o.Shard, f), silence{}, err
}

func solvePlan(s api.State, o api.Op) (api.State, teller, api.Errno) {
	f, err := plan.Run(o.Plan, s.Shards)
	if err != api.OK {
		return s, silence{}, err
	}
	f, err = absorb.Ridge(f, o.Mu)
	if err != api.OK {
		return s, silence{}, err
	}
	coefs, err := solve.Back(f)
	return s, solution{coefs, f.Turns}, err
}

func tellPlan(s api.State, o api.Op) (api.State, teller, api.Errno) {
	f, err := plan.Run(o.Plan, s.Shards)
	if err != api.OK {
		return s, silence{}, err
	}
	left, err := stats.Of(f)
	return s, leftover{left, f.Turns}, err
}
