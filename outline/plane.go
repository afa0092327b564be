package outline

import (
	"cmp"
	"iter"
	"slices"

	"pantoscope/api"
)

// sides goes through the sides of a closed list of corners: the two ends of each one.
func sides(o []api.XY) iter.Seq2[api.XY, api.XY] {
	return func(yield func(a, b api.XY) bool) {
		for i, a := range o {
			if !yield(a, o[(i+1)%len(o)]) {
				return
			}
		}
	}
}

func plus(a, b api.XY) api.XY {
	return api.XY{X: a.X + b.X, Y: a.Y + b.Y}
}

func minus(a, b api.XY) api.XY {
	return api.XY{X: a.X - b.X, Y: a.Y - b.Y}
}

func dot(a, b api.XY) int {
	return a.X*b.X + a.Y*b.Y
}

// cross is greater than 0 if the direction b is to the left of the direction a.
func cross(a, b api.XY) int {
	return a.X*b.Y - a.Y*b.X
}

// turn is greater than 0 if the way from a by b to c turns left at b.
func turn(a, b, c api.XY) int {
	return cross(minus(b, a), minus(c, b))
}

// half rounds down, also below 0.
func half(n int) int {
	return n >> 1
}

// inRange tells whether both coordinates are from -most to most.
func inRange(p api.XY, most int) bool {
	return -most <= p.X && p.X <= most && -most <= p.Y && p.Y <= most
}

func allInRange(places []api.XY) bool {
	for _, p := range places {
		if !inRange(p, api.MaxPlace) {
			return false
		}
	}
	return true
}

// fromBelow compares two places by Y, and those of one height by X.
func fromBelow(a, b api.XY) int {
	return cmp.Or(cmp.Compare(a.Y, b.Y), cmp.Compare(a.X, b.X))
}

// canonical is a copy of o that begins with the least corner.
func canonical(o []api.XY) []api.XY {
	first := 0
	for i, p := range o {
		if fromBelow(p, o[first]) < 0 {
			first = i
		}
	}
	return slices.Concat(o[first:], o[:first])
}

// changed is a copy of o with each corner changed.
func changed(o []api.XY, change func(api.XY) api.XY) []api.XY {
	out := make([]api.XY, 0, len(o))
	for _, p := range o {
		out = append(out, change(p))
	}
	return out
}

// bounds are the lower left and the upper right corner of the box of o.
func bounds(o []api.XY) (low, high api.XY) {
	low, high = o[0], o[0]
	for _, p := range o {
		low = api.XY{X: min(low.X, p.X), Y: min(low.Y, p.Y)}
		high = api.XY{X: max(high.X, p.X), Y: max(high.Y, p.Y)}
	}
	return low, high
}

func turnsLeft(o []api.XY) bool {
	before := o[len(o)-1]
	for a, b := range sides(o) {
		if turn(before, a, b) <= 0 {
			return false
		}
		before = a
	}
	return true
}

// rounds counts how often a list that turns left at every corner goes round: each turn is less than half a round, so
// each round has one corner at which the way begins to rise. A list with one round is convex; sides of one with more
// rounds cross or touch.
func rounds(o []api.XY) int {
	n := 0
	rose := rises(o[len(o)-1], o[0])
	for a, b := range sides(o) {
		now := rises(a, b)
		if now && !rose {
			n++
		}
		rose = now
	}
	return n
}

// rises tells whether the direction from a to b is from 0 to less than half a turn.
func rises(a, b api.XY) bool {
	return fromBelow(a, b) < 0
}
