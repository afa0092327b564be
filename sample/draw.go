package sample

import (
	"slices"

	"pantoscope/api"
)

// Numbers of the generator that chooses pieces.
const (
	factor  = 16807
	modulus = 2147483647
)

// Draw returns which pieces of a lot are looked at, in ascending order.
func Draw(seed, lot, sample int) ([]int, api.Errno) {
	if !within(seed, 1, modulus-1) || !within(lot, 1, api.MaxLot) || !within(sample, 0, lot) {
		return nil, api.ErrArg
	}
	var left, drawn []int
	for piece := range lot {
		left = append(left, piece)
	}
	x := seed
	for range sample {
		x = x * factor % modulus
		i := x % len(left)
		drawn = append(drawn, left[i])
		left = slices.Delete(left, i, i+1)
	}
	slices.Sort(drawn)
	return drawn, api.OK
}

// Bad returns how many of the drawn pieces are bad.
func Bad(pieces []bool, drawn []int) (int, api.Errno) {
	if len(pieces) > api.MaxLot {
		return 0, api.ErrArg
	}
	seen := make([]bool, len(pieces))
	bad := 0
	for _, i := range drawn {
		if !within(i, 0, len(pieces)-1) || seen[i] {
			return 0, api.ErrArg
		}
		seen[i] = true
		if pieces[i] {
			bad++
		}
	}
	return bad, api.OK
}
