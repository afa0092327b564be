package outline

import "pantoscope/api"

const (
	maxDirection = 10000
	maxHeld      = 4 * api.MaxPlace
)

// Reach returns the greatest u * X + v * Y of the corners of o.
func Reach(o []api.XY, u, v int) (int, api.Errno) {
	if !Valid(o) {
		return 0, api.ErrOutline
	}
	direction := api.XY{X: u, Y: v}
	if !inRange(direction, maxDirection) || u == 0 && v == 0 {
		return 0, api.ErrArg
	}
	return reach(o, direction), api.OK
}

// Holds reports whether p is in o or on its sides.
func Holds(o []api.XY, p api.XY) (bool, api.Errno) {
	if !Valid(o) {
		return false, api.ErrOutline
	}
	if !inRange(p, maxHeld) {
		return false, api.ErrArg
	}
	return holds(o, p), api.OK
}

// Within reports whether all corners of o are in p or on its sides.
func Within(o, p []api.XY) (bool, api.Errno) {
	if !Valid(o) || !Valid(p) {
		return false, api.ErrOutline
	}
	return holdsAll(p, o), api.OK
}

// Seat reports whether a lens sits in a groove: it is within it, and no side of the groove is farther from it than play.
func Seat(lens, groove []api.XY, play int) (bool, api.Errno) {
	if !Valid(lens) || !Valid(groove) {
		return false, api.ErrOutline
	}
	if play < 0 || play > api.MaxPlay {
		return false, api.ErrArg
	}
	return holdsAll(groove, lens) && near(lens, groove, play), api.OK
}

func reach(o []api.XY, direction api.XY) int {
	most := dot(o[0], direction)
	for _, p := range o {
		most = max(most, dot(p, direction))
	}
	return most
}

func holds(o []api.XY, p api.XY) bool {
	for a, b := range sides(o) {
		if turn(a, b, p) < 0 {
			return false
		}
	}
	return true
}

func holdsAll(o, places []api.XY) bool {
	for _, p := range places {
		if !holds(o, p) {
			return false
		}
	}
	return true
}

// near compares squares, because the gap at a side is a difference of reaches divided by the length of the side.
func near(lens, groove []api.XY, play int) bool {
	for a, b := range sides(groove) {
		outward := api.XY{X: b.Y - a.Y, Y: a.X - b.X}
		gap := reach(groove, outward) - reach(lens, outward)
		if gap*gap > play*play*dot(outward, outward) {
			return false
		}
	}
	return true
}
