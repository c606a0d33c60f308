package replay

import (
	"iter"

	"levelling/api"
	"levelling/engine"
	"levelling/own"
)

// gather is the last state of walk, and all that was done on the way.
func gather(s api.State, l []api.Op, ahead func(api.State, api.Op) api.State) (api.State, []api.Done) {
	// Where l has no things, s is the answer.
	last := own.State(s)
	all := make([]api.Done, 0, len(l))
	for state, done := range walk(s, l, ahead) {
		last = state
		all = append(all, done)
	}
	return last, all
}

// walk goes through what is done: for each of l, the state behind it, and what came of it. It is asked of what ahead makes of the state behind the one ahead of it.
func walk(s api.State, l []api.Op, ahead func(api.State, api.Op) api.State) iter.Seq2[api.State, api.Done] {
	return func(yield func(state api.State, done api.Done) bool) {
		now := s
		for _, o := range l {
			behind, answer, err := engine.Do(ahead(now, o), o)
			if !yield(behind, api.Done{Answer: answer, Err: err}) {
				return
			}
			now = behind
		}
	}
}

// pairs goes through the things of l whose place in d there is, and what was done of each.
func pairs(l []api.Op, d []api.Done) iter.Seq2[api.Op, api.Done] {
	return func(yield func(o api.Op, done api.Done) bool) {
		for i := range min(len(l), len(d)) {
			if !yield(l[i], d[i]) {
				return
			}
		}
	}
}
