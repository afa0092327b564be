package slab

import (
	"sort"

	"pantoscope/api"
)

const (
	shares    = 100000 // of a size, in which an oven's table counts
	maxShrink = 50000
	maxWait   = 1000 // days
)

// Season returns what becomes of a size after so many days in the oven.
func Season(size int, table []int, days int) (int, api.Errno) {
	if err := ovenError(table, isSize(size) && isWait(days)); err != api.OK {
		return 0, err
	}
	return seasoned(size, table, days), api.OK
}

// Allowance returns the least size of which at least want is left after so many days in the oven.
func Allowance(want int, table []int, days int) (int, api.Errno) {
	if err := ovenError(table, isSize(want) && isWait(days)); err != api.OK {
		return 0, err
	}
	size := 1 + sort.Search(api.MaxRaw, func(i int) bool { return seasoned(1+i, table, days) >= want })
	if size > api.MaxRaw {
		return 0, api.ErrNone
	}
	return size, api.OK
}

// Ready returns the first day from which on a size shrinks by not more than least.
func Ready(size int, table []int, least int) (int, api.Errno) {
	if err := ovenError(table, isSize(size) && least >= 0); err != api.OK {
		return 0, err
	}
	end := seasoned(size, table, len(table))
	day := 0
	for seasoned(size, table, day)-end > least {
		day++
	}
	return day, api.OK
}

// ovenError is the first error of a call with a table, the other arguments of which are in range or not.
func ovenError(table []int, inRange bool) api.Errno {
	if len(table) > api.MaxDays {
		return api.ErrLimit
	}
	for _, n := range table {
		inRange = inRange && 0 <= n && n <= maxShrink
	}
	if !inRange {
		return api.ErrArg
	}
	return api.OK
}

func isSize(n int) bool {
	return 1 <= n && n <= api.MaxRaw
}

func isWait(days int) bool {
	return 0 <= days && days <= maxWait
}

func seasoned(size int, table []int, days int) int {
	for _, n := range table[:min(days, len(table))] {
		size = size * (shares - n) / shares
	}
	return size
}
