package last

import "pantoscope/api"

// fittedSets returns, for each size, the set of the heads that it fits.
func fittedSets(sizes []api.Size, heads []api.Head) ([]set, api.Errno) {
	if !ValidSizes(sizes) {
		return nil, api.ErrSize
	}
	if !ValidHeads(heads) {
		return nil, api.ErrHead
	}
	fitted := make([]set, len(sizes))
	for i, s := range sizes {
		for j, h := range heads {
			if fits(s, h) {
				fitted[i] |= only(j)
			}
		}
	}
	return fitted, api.OK
}

// isOpen tells whether a head is fitted by no size.
func isOpen(fitted []set, heads []api.Head) bool {
	return union(fitted, first(len(fitted))) != first(len(heads))
}

// union is the set of the heads that the chosen sizes fit.
func union(fitted []set, chosen set) set {
	var all set
	for i := range chosen.indexes() {
		all |= fitted[i]
	}
	return all
}

// greedy covers the heads that are left; it needs sizes that can cover them all.
func greedy(fitted []set, left set) []int {
	var taken []int
	for left != 0 {
		best := 0
		for i, s := range fitted {
			if (s & left).count() > (fitted[best] & left).count() {
				best = i
			}
		}
		taken = append(taken, best)
		left &^= fitted[best]
	}
	return taken
}

// fewest goes through all choices of sizes; it needs sizes that can cover all heads.
func fewest(fitted []set, heads set) set {
	all := first(len(fitted))
	best := all
	for chosen := range all {
		if union(fitted, chosen) == heads && precedes(chosen, best) {
			best = chosen
		}
	}
	return best
}

// precedes tells whether s has fewer elements than t, or as many and its list comes first, number by number.
func precedes(s, t set) bool {
	if s.count() != t.count() {
		return s.count() < t.count()
	}
	// Up to the least element that only one of them has, the two lists are equal.
	differ := s ^ t
	return s&differ&-differ != 0
}
