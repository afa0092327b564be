// Package outline is layer 1: convex lens shapes with whole coordinates, their measures, mirrors and sums,
// seats in grooves, blanks, and the texts of tracers. See shared/doc/01-outline.md.
package outline

import (
	"slices"

	"pantoscope/api"
)

// Valid reports whether o is a strictly convex outline in counterclockwise order, within the limits.
func Valid(o []api.XY) bool {
	if len(o) < 3 || len(o) > api.MaxCorners || !allInRange(o) {
		return false
	}
	return turnsLeft(o) && rounds(o) == 1
}

// Canonical returns o from its least corner on.
func Canonical(o []api.XY) ([]api.XY, api.Errno) {
	if !Valid(o) {
		return nil, api.ErrOutline
	}
	return canonical(o), api.OK
}

// Same reports whether o and p have equal canonical forms.
func Same(o, p []api.XY) (bool, api.Errno) {
	if !Valid(o) || !Valid(p) {
		return false, api.ErrOutline
	}
	return slices.Equal(canonical(o), canonical(p)), api.OK
}

// Box returns the width and the height of o.
func Box(o []api.XY) (a, b int, err api.Errno) {
	if !Valid(o) {
		return 0, 0, api.ErrOutline
	}
	low, high := bounds(o)
	return high.X - low.X, high.Y - low.Y, api.OK
}

// Centred returns o moved so that the middle of its box, rounded down, is at (0, 0).
func Centred(o []api.XY) ([]api.XY, api.Errno) {
	if !Valid(o) {
		return nil, api.ErrOutline
	}
	low, high := bounds(o)
	middle := api.XY{X: half(low.X + high.X), Y: half(low.Y + high.Y)}
	centred := changed(o, func(p api.XY) api.XY { return minus(p, middle) })
	return canonical(centred), api.OK
}

// Area2 returns twice the area of o.
func Area2(o []api.XY) (int, api.Errno) {
	if !Valid(o) {
		return 0, api.ErrOutline
	}
	area := 0
	for a, b := range sides(o) {
		area += cross(a, b)
	}
	return area, api.OK
}

// Mirror returns o with -X in the place of X.
func Mirror(o []api.XY) ([]api.XY, api.Errno) {
	if !Valid(o) {
		return nil, api.ErrOutline
	}
	mirrored := changed(o, func(p api.XY) api.XY { return api.XY{X: -p.X, Y: p.Y} })
	slices.Reverse(mirrored) // a mirror makes the order clockwise
	return canonical(mirrored), api.OK
}

// Turned returns o turned round by half a turn.
func Turned(o []api.XY) ([]api.XY, api.Errno) {
	if !Valid(o) {
		return nil, api.ErrOutline
	}
	turned := changed(o, func(p api.XY) api.XY { return api.XY{X: -p.X, Y: -p.Y} })
	return canonical(turned), api.OK
}

// Moved returns o moved by dx and dy.
func Moved(o []api.XY, dx, dy int) ([]api.XY, api.Errno) {
	if !Valid(o) {
		return nil, api.ErrOutline
	}
	by := api.XY{X: dx, Y: dy}
	if !inRange(by, 2*api.MaxPlace) {
		return nil, api.ErrArg
	}
	moved := changed(o, func(p api.XY) api.XY { return plus(p, by) })
	if !allInRange(moved) {
		return nil, api.ErrArg
	}
	return canonical(moved), api.OK
}
