package nest

import (
	"pantoscope/api"
	"pantoscope/outline"
)

// Limits of boards and layouts.
const (
	maxGap    = 2000
	maxShift  = 2 * api.MaxBoard
	maxPlaces = 200
	maxBoxes  = 10000
	maxDrop   = 500
)

func within(n, least, most int) bool {
	return least <= n && n <= most
}

func validBoard(b api.Board) bool {
	if !within(b.W, 1, api.MaxBoard) || !within(b.H, 1, api.MaxBoard) || !within(b.Gap, 0, maxGap) {
		return false
	}
	if len(b.Faults) > api.MaxFaults {
		return false
	}
	for _, f := range b.Faults {
		if !isPiece(f.X, f.W, b.W) || !isPiece(f.Y, f.H, b.H) {
			return false
		}
	}
	return true
}

// isPiece tells whether a length that begins at from lies within a whole from 0 on.
func isPiece(from, length, whole int) bool {
	return within(from, 0, whole) && within(length, 1, whole-from)
}

func validParts(parts []api.Part) bool {
	if len(parts) > api.MaxParts {
		return false
	}
	for _, p := range parts {
		if !outline.Valid(p.O) {
			return false
		}
	}
	return true
}

func checkPart(b api.Board, parts []api.Part, part int) api.Errno {
	if !Valid(b, parts) {
		return api.ErrBoard
	}
	if !isIndex(parts, part) {
		return api.ErrArg
	}
	return api.OK
}

func isIndex(parts []api.Part, part int) bool {
	return within(part, 0, len(parts)-1)
}

// area2 is twice the area of a board.
func area2(b api.Board) int {
	return 2 * b.W * b.H
}

// partArea2 is twice the area of a part.
func partArea2(p api.Part) int {
	area, _ := outline.Area2(p.O)
	return area
}

// corners are those of a fault, counterclockwise.
func corners(f api.Rect) []api.XY {
	right, top := f.X+f.W, f.Y+f.H
	return []api.XY{{X: f.X, Y: f.Y}, {X: right, Y: f.Y}, {X: right, Y: top}, {X: f.X, Y: top}}
}

// around is the least rectangle that holds some places.
func around(places []api.XY) api.Rect {
	if len(places) == 0 {
		return api.Rect{}
	}
	left, right := span(places, api.XY{X: 1})
	low, high := span(places, api.XY{Y: 1})
	return api.Rect{X: left, Y: low, W: right - left, H: high - low}
}
