package nest

import (
	"iter"

	"pantoscope/api"
)

// directions goes through the directions in which two outlines may be apart: along the axes, and across their sides.
func directions(o, p []api.XY) iter.Seq[api.XY] {
	return func(yield func(api.XY) bool) {
		if !yield(api.XY{X: 1}) || !yield(api.XY{Y: 1}) {
			return
		}
		for _, corners := range [][]api.XY{o, p} {
			a := corners[len(corners)-1]
			for _, b := range corners {
				if !yield(api.XY{X: b.Y - a.Y, Y: a.X - b.X}) {
					return
				}
				a = b
			}
		}
	}
}

// areApart tells whether two outlines, wherever they lie, are at least gap apart.
func areApart(o, p []api.XY, gap int) bool {
	for d := range directions(o, p) {
		if isFar(between(o, p, d), gap, d) {
			return true
		}
	}
	return false
}

// between is how much greater the numbers of one outline are in a direction, at the least, than those of the other one;
// it is negative if neither is beyond the other one.
func between(o, p []api.XY, d api.XY) int {
	lowO, highO := span(o, d)
	lowP, highP := span(p, d)
	return max(lowO-highP, lowP-highO)
}

// span is the least and the greatest number of some places in a direction.
func span(places []api.XY, d api.XY) (low, high int) {
	low = d.X*places[0].X + d.Y*places[0].Y
	high = low
	for _, p := range places[1:] {
		n := d.X*p.X + d.Y*p.Y
		low, high = min(low, n), max(high, n)
	}
	return low, high
}

// isFar tells whether a difference of numbers in a direction is at least gap as a length.
func isFar(difference, gap int, d api.XY) bool {
	if difference < 0 {
		return false
	}
	// Beside the long sides of a fault, a difference has up to 32 bits: its square does not fit into an int.
	square := uint64(difference) * uint64(difference)
	return square >= uint64(gap*gap*(d.X*d.X+d.Y*d.Y))
}
