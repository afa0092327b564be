package temple

import (
	"cmp"
	"slices"

	"pantoscope/api"
)

// placed is a temple with its index in the list.
type placed struct {
	api.Temple
	index int
}

// byLength returns all temples, the shortest first, of several the one with the least Number.
func byLength(l []api.Temple) []placed {
	var all []placed
	for i, t := range l {
		all = append(all, placed{Temple: t, index: i})
	}
	slices.SortFunc(all, func(a, b placed) int {
		return cmp.Or(cmp.Compare(a.Length, b.Length), cmp.Compare(a.Number, b.Number))
	})
	return all
}

// byColour returns the temples of each colour that are on a side, in their order.
func byColour(all []placed, side int) map[int][]placed {
	colours := map[int][]placed{}
	for _, t := range all {
		if t.Side == side {
			colours[t.Colour] = append(colours[t.Colour], t)
		}
	}
	return colours
}

func match(l []api.Temple, tol int) [][2]int {
	all := byLength(l)
	left, right := byColour(all, api.SideLeft), byColour(all, api.SideRight)
	var pairs [][2]int
	for colour := 1; colour <= maxColour; colour++ {
		pairs = append(pairs, matchColour(left[colour], right[colour], tol)...)
	}
	return pairs
}

// matchColour pairs the temples of one colour, the shortest first on each side.
func matchColour(left, right []placed, tol int) [][2]int {
	var pairs [][2]int
	for len(left) > 0 && len(right) > 0 {
		a, b := left[0], right[0]
		switch {
		case canPair(a.Temple, b.Temple, tol):
			pairs = append(pairs, [2]int{a.index, b.index})
			left, right = left[1:], right[1:]
		case a.Length < b.Length:
			left = left[1:]
		default:
			right = right[1:]
		}
	}
	return pairs
}

// guard returns the left temples that no alternating path reaches from a left one that is in no pair, and the right ones
// that one reaches. As match has the most pairs, each of these is in a pair, and no pair has two of them.
func guard(l []api.Temple, tol int) []int {
	reached := reachable(l, tol, match(l, tol))
	var list []int
	for i, t := range l {
		if reached[i] == (t.Side == api.SideRight) {
			list = append(list, i)
		}
	}
	return list
}

// reachable tells which temples alternating paths reach from the left ones that are in no pair: from a left temple to any
// right one with which it can be a pair, and from there to the left one that is in a pair with it.
func reachable(l []api.Temple, tol int, pairs [][2]int) []bool {
	leftOf, paired := map[int]int{}, map[int]bool{}
	for _, p := range pairs {
		leftOf[p[1]] = p[0]
		paired[p[0]] = true
	}
	reached := make([]bool, len(l))
	var walk func(left int)
	walk = func(left int) {
		reached[left] = true
		for right, t := range l {
			if !reached[right] && canPair(l[left], t, tol) {
				reached[right] = true
				walk(leftOf[right])
			}
		}
	}
	for i, t := range l {
		if t.Side == api.SideLeft && !paired[i] {
			walk(i)
		}
	}
	return reached
}

func isGuard(l []api.Temple, tol int, in []bool) bool {
	for i, a := range l {
		for j, b := range l[:i] {
			if canPair(a, b, tol) && !in[i] && !in[j] {
				return false
			}
		}
	}
	return true
}
