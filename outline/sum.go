package outline

import (
	"slices"

	"pantoscope/api"
)

const maxHullPlaces = 200

// Sum returns the outline whose places are the sums of a place of o and one of p.
func Sum(o, p []api.XY) ([]api.XY, api.Errno) {
	if !Valid(o) || !Valid(p) {
		return nil, api.ErrOutline
	}
	o, p = canonical(o), canonical(p)
	sum := walk(plus(o[0], p[0]), joined(steps(o), steps(p)))
	if len(sum) > api.MaxCorners || !allInRange(sum) {
		return nil, api.ErrLimit
	}
	return sum, api.OK
}

// Hull returns the least outline that holds all the places.
func Hull(places []api.XY) ([]api.XY, api.Errno) {
	if len(places) > maxHullPlaces {
		return nil, api.ErrLimit
	}
	if !allInRange(places) {
		return nil, api.ErrArg
	}
	hull := hullOf(places)
	if len(hull) < 3 {
		return nil, api.ErrArg
	}
	if len(hull) > api.MaxCorners {
		return nil, api.ErrLimit
	}
	return hull, api.OK
}

// steps are the ways from each corner to the next one; from a canonical form they are in the order of their directions.
func steps(o []api.XY) []api.XY {
	out := make([]api.XY, 0, len(o))
	for a, b := range sides(o) {
		out = append(out, minus(b, a))
	}
	return out
}

// joined merges two lists of steps by their directions, and makes one step of two with the same direction. Two first
// steps are never half a turn or more apart, so cross tells their order.
func joined(s, t []api.XY) []api.XY {
	out := make([]api.XY, 0, len(s)+len(t))
	for len(s) > 0 && len(t) > 0 {
		order := cross(s[0], t[0])
		step := api.XY{}
		if order >= 0 {
			step = plus(step, s[0])
			s = s[1:]
		}
		if order <= 0 {
			step = plus(step, t[0])
			t = t[1:]
		}
		out = append(out, step)
	}
	out = append(out, s...)
	return append(out, t...)
}

// walk lists the places from which the steps are made.
func walk(at api.XY, steps []api.XY) []api.XY {
	out := make([]api.XY, 0, len(steps))
	for _, step := range steps {
		out = append(out, at)
		at = plus(at, step)
	}
	return out
}

// hullOf is the hull in canonical form; places on one line have a hull of at most two corners.
func hullOf(places []api.XY) []api.XY {
	sorted := slices.Clone(places)
	slices.SortFunc(sorted, fromBelow)
	if len(sorted) < 3 {
		return sorted
	}
	up := chain(sorted)
	slices.Reverse(sorted)
	down := chain(sorted)
	return slices.Concat(up[:len(up)-1], down[:len(down)-1])
}

// chain goes from the first to the last place, turning left alone, with no place to its right. A place that is there
// twice is no turn, and so a corner once.
func chain(sorted []api.XY) []api.XY {
	out := make([]api.XY, 0, len(sorted))
	for _, p := range sorted {
		for len(out) > 1 && turn(out[len(out)-2], out[len(out)-1], p) <= 0 {
			out = out[:len(out)-1]
		}
		out = append(out, p)
	}
	return out
}
