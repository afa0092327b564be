package nest

import (
	"pantoscope/api"
	"pantoscope/outline"
)

// A piece is a part that lies on a board.
type piece struct {
	place   api.Place
	corners []api.XY
}

func validPlace(parts []api.Part, p api.Place) bool {
	return isIndex(parts, p.Part) && within(p.X, -maxShift, maxShift) && within(p.Y, -maxShift, maxShift)
}

// mayLie tells whether a part may lie as a place says, on some board.
func mayLie(parts []api.Part, p api.Place) bool {
	return validPlace(parts, p) && (parts[p.Part].Turns || !p.Turned)
}

// lying are the corners of a part that lies at p.
func lying(parts []api.Part, p api.Place) []api.XY {
	form := outline.Canonical
	if p.Turned {
		form = outline.Turned
	}
	o, _ := form(parts[p.Part].O)
	for i := range o {
		o[i].X += p.X
		o[i].Y += p.Y
	}
	return o
}

// lay checks a board and a layout: it returns the pieces that lie there, or which place is wrong.
func lay(b api.Board, parts []api.Part, l []api.Place) (pieces []piece, index int, err api.Errno) {
	if !Valid(b, parts) {
		return nil, 0, api.ErrBoard
	}
	if len(l) > maxPlaces {
		return nil, 0, api.ErrLimit
	}
	for i, p := range l {
		if !mayLie(parts, p) {
			return nil, i, api.ErrArg
		}
		pieces = append(pieces, piece{place: p, corners: lying(parts, p)})
	}
	if index, err := checkPieces(b, pieces); err != api.OK {
		return nil, index, err
	}
	return pieces, 0, api.OK
}

// checkPieces tells which piece is wrong: each check goes through all pieces before the next one does.
func checkPieces(b api.Board, pieces []piece) (int, api.Errno) {
	for _, check := range []struct {
		err   api.Errno
		right func(i int) bool
	}{
		{api.ErrBeyond, func(i int) bool { return isOn(b, pieces[i].corners) }},
		{api.ErrFault, func(i int) bool { return isBeside(b, pieces[i].corners) }},
		{api.ErrClash, func(i int) bool { return isClear(pieces[i], pieces[:i], b.Gap) }},
	} {
		for i := range pieces {
			if !check.right(i) {
				return i, check.err
			}
		}
	}
	return 0, api.OK
}

// isOn tells whether corners lie on a board.
func isOn(b api.Board, corners []api.XY) bool {
	for _, c := range corners {
		if !within(c.X, 0, b.W) || !within(c.Y, 0, b.H) {
			return false
		}
	}
	return true
}

// isBeside tells whether an outline is beside all faults of a board.
func isBeside(b api.Board, o []api.XY) bool {
	for _, f := range b.Faults {
		if !areApart(o, corners(f), 0) {
			return false
		}
	}
	return true
}

// isClear tells whether a piece is at least gap apart from others.
func isClear(a piece, others []piece, gap int) bool {
	for _, o := range others {
		// Equal places always clash: there is no need to go through all directions.
		if a.place == o.place || !areApart(a.corners, o.corners, gap) {
			return false
		}
	}
	return true
}

// isFree tells whether a layout that is right stays so with one more place.
func isFree(b api.Board, parts []api.Part, pieces []piece, p api.Place) bool {
	if len(pieces) == maxPlaces || !mayLie(parts, p) {
		return false
	}
	one := piece{place: p, corners: lying(parts, p)}
	return isOn(b, one.corners) && isBeside(b, one.corners) && isClear(one, pieces, b.Gap)
}

// fall returns how low a height can get, step by step, as long as it is free; false if it is not free itself.
func fall(y int, free func(y int) bool) (int, bool) {
	if !free(y) {
		return 0, false
	}
	for y > 0 && free(y-1) {
		y--
	}
	return y, true
}
