package plan

import "levelling/api"

// step is one number of a plan, by what it does.
type step interface {
	// takes tells how many things it takes off the stack; each step lays one on it.
	takes() int
}

// lay lays this shard on the stack.
type lay int

// join takes the two upper things off the stack, and lays on it what both come to.
type join struct{}

func (s lay) takes() int { return 0 }

func (s join) takes() int { return 2 }

// stepOf is the step that n stands for, if there is one.
func stepOf(n int) (step, bool) {
	switch {
	case n >= 0:
		return lay(n), true
	case n == -1:
		return join{}, true
	}
	return nil, false
}

// play is what l, which may be, comes to, if shard answers what a shard is, and both what two things come to; up to the first error.
func play[T any](l []int, shard func(int) (T, api.Errno), both func(T, T) (T, api.Errno)) (T, api.Errno) {
	var stack []T
	var none T
	for _, n := range l {
		s, _ := stepOf(n)
		next, err := none, api.OK
		rest := len(stack) - s.takes()
		switch s := s.(type) {
		case lay:
			next, err = shard(int(s))
		case join:
			next, err = both(stack[rest], stack[rest+1])
		}
		if err != api.OK {
			return none, err
		}
		stack = append(stack[:rest], next)
	}
	return stack[0], api.OK
}
