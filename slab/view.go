package slab

import (
	"slices"

	"pantoscope/api"
)

// Layer returns the cells whose number along an axis is n, as strings of letters.
func Layer(b api.Block, axis, n int) ([]string, api.Errno) {
	whole, err := made(b)
	if err != api.OK {
		return nil, err
	}
	if !isAxis(axis) || n < 0 || n >= whole.extents()[axis] {
		return nil, api.ErrArg
	}
	return layer(whole, axis, n), api.OK
}

// Depth returns the colours below the place x, y of a block's first layer, that layer included.
func Depth(b api.Block, x, y int) (string, api.Errno) {
	whole, err := made(b)
	if err != api.OK {
		return "", err
	}
	first := [3]int{x, y, 0}
	if !isCell(whole, first) {
		return "", api.ErrArg
	}
	return row(whole, first, 2), api.OK
}

// Window returns the part of a block's first layer that a rectangle names.
func Window(b api.Block, r api.Rect) ([]string, api.Errno) {
	whole, err := made(b)
	if err != api.OK {
		return nil, err
	}
	if !inLayer(whole, r) {
		return nil, api.ErrArg
	}
	return window(whole, r), api.OK
}

// Matches reports whether two windows of a block lie apart, and one is the other one in a mirror.
func Matches(b api.Block, r, s api.Rect) (bool, api.Errno) {
	whole, err := made(b)
	if err != api.OK {
		return false, err
	}
	if !inLayer(whole, r) || !inLayer(whole, s) {
		return false, api.ErrArg
	}
	if r.W != s.W || r.H != s.H || overlap(r, s) {
		return false, api.OK
	}
	return slices.EqualFunc(window(whole, r), window(whole, s), mirrored), api.OK
}

func layer(b block, axis, n int) []string {
	p, q := beside(axis)
	along, across := min(p, q), max(p, q)
	var first [3]int
	first[axis] = n
	rows := make([]string, 0, b.extents()[across])
	for i := range b.extents()[across] {
		first[across] = i
		rows = append(rows, row(b, first, along))
	}
	return rows
}

// row is the letters of the cells from a first one on, along an axis.
func row(b block, first [3]int, axis int) string {
	cell := first
	letters := make([]byte, 0, b.extents()[axis])
	for i := range b.extents()[axis] {
		cell[axis] = i
		letters = append(letters, colours[b.colour(cell)])
	}
	return string(letters)
}

func inLayer(b block, r api.Rect) bool {
	extent := b.extents()
	return isSpan(r.X, r.W, extent[0]) && isSpan(r.Y, r.H, extent[1])
}

// isSpan tells whether there are count numbers from a first one on below end. It adds nothing: sums might be too great.
func isSpan(first, count, end int) bool {
	return first >= 0 && count >= 1 && count <= end-first
}

func window(b block, r api.Rect) []string {
	rows := make([]string, 0, r.H)
	for _, letters := range layer(b, 2, 0)[r.Y : r.Y+r.H] {
		rows = append(rows, letters[r.X:r.X+r.W])
	}
	return rows
}

func overlap(r, s api.Rect) bool {
	return r.X < s.X+s.W && s.X < r.X+r.W && r.Y < s.Y+s.H && s.Y < r.Y+r.H
}

// mirrored tells whether one string is the other one, of the same length, read from its end.
func mirrored(s, t string) bool {
	for i := range len(s) {
		if s[i] != t[len(t)-1-i] {
			return false
		}
	}
	return true
}
