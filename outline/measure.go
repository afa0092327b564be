package outline

import (
	"sort"

	"pantoscope/api"
)

const (
	maxMounting = 20000
	blankMargin = 200
)

// Around returns bounds of the length of o.
func Around(o []api.XY) (low, high int, err api.Errno) {
	if !Valid(o) {
		return 0, 0, api.ErrOutline
	}
	for a, b := range sides(o) {
		side := minus(b, a)
		down, up := roots(dot(side, side))
		low += down
		high += up
	}
	return low, high, api.OK
}

// Diameter returns the least diameter of a circle around (0, 0) that holds o.
func Diameter(o []api.XY) (int, api.Errno) {
	if !Valid(o) {
		return 0, api.ErrOutline
	}
	return diameter(o), api.OK
}

// Blank returns the least diameter of a blank from which the lens o can be made.
func Blank(o []api.XY, bridge, pupils int) (int, api.Errno) {
	if !Valid(o) {
		return 0, api.ErrOutline
	}
	if bridge < 0 || bridge > maxMounting || pupils < 0 || pupils > maxMounting {
		return 0, api.ErrArg
	}
	low, high := bounds(o)
	shift := high.X - low.X + bridge - pupils
	return diameter(o) + max(shift, -shift) + blankMargin, api.OK
}

func diameter(o []api.XY) int {
	far := 0
	for _, p := range o {
		far = max(far, dot(p, p))
	}
	_, up := roots(4 * far)
	return up
}

// roots are the square root of n, which is at least 0, rounded down and rounded up.
func roots(n int) (down, up int) {
	up = sort.Search(n, func(d int) bool { return d*d >= n })
	if up*up == n {
		return up, up
	}
	return up - 1, up
}
