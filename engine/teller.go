package engine

import "levelling/api"

// teller is what came of a thing that went, beside the state.
type teller interface {
	answer() api.Answer
}

// silence is what comes of a thing that only makes another state.
type silence struct{}

// shipment is a shard, as bytes.
type shipment string

// solution is the answers of what a plan comes to, and behind how many rotations.
type solution struct {
	coefs []float64
	turns int
}

// leftover is what is left over of what a plan comes to, and behind how many rotations.
type leftover struct {
	stats api.Stats
	turns int
}

func (silence) answer() api.Answer { return api.Answer{} }

func (s shipment) answer() api.Answer { return api.Answer{Bytes: string(s)} }

func (s solution) answer() api.Answer { return api.Answer{Coefs: s.coefs, Turns: s.turns} }

func (l leftover) answer() api.Answer { return api.Answer{Stats: l.stats, Turns: l.turns} }
