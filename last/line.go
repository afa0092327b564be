package last

import (
	"slices"

	"pantoscope/api"
)

// maxValue is the greatest absolute value, and the greatest width, of sizes that differ in one measure alone.
const maxValue = 1_000_000

// Stab returns where the sizes of a width begin that cover values best.
func Stab(values []int, width int) ([]int, api.Errno) {
	if err := checkLine(values, width, nil); err != api.OK {
		return nil, err
	}
	var starts []int
	for _, v := range slices.Backward(slices.Sorted(slices.Values(values))) {
		if len(starts) == 0 || v < starts[len(starts)-1] {
			starts = append(starts, v-width)
		}
	}
	slices.Reverse(starts)
	return starts, api.OK
}

// Spread returns the most values that are pairwise farther apart than a width, from the least on.
func Spread(values []int, width int) ([]int, api.Errno) {
	if err := checkLine(values, width, nil); err != api.OK {
		return nil, err
	}
	var list []int
	for _, v := range slices.Sorted(slices.Values(values)) {
		if len(list) == 0 || v > list[len(list)-1]+width {
			list = append(list, v)
		}
	}
	return list, api.OK
}

// Stabbed reports whether sizes of a width that begin at the elements of a list cover values.
func Stabbed(values []int, width int, list []int) (bool, api.Errno) {
	if err := checkLine(values, width, list); err != api.OK {
		return false, err
	}
	for _, v := range values {
		if !slices.ContainsFunc(list, func(s int) bool { return within(v, s, s+width) }) {
			return false, api.OK
		}
	}
	return true, api.OK
}

func checkLine(values []int, width int, list []int) api.Errno {
	if len(values) > api.MaxValues || len(list) > api.MaxValues {
		return api.ErrLimit
	}
	if !allWithin(values, -maxValue, maxValue) || !allWithin(list, -2*maxValue, maxValue) || !within(width, 0, maxValue) {
		return api.ErrArg
	}
	return api.OK
}

func allWithin(list []int, least, most int) bool {
	for _, n := range list {
		if !within(n, least, most) {
			return false
		}
	}
	return true
}
