package last

import (
	"iter"
	"math/bits"
	"slices"
)

// set is a set of indexes from 0 to 63, one bit for each: there are at most MaxHeads heads and MaxSizes sizes.
type set uint64

func only(i int) set {
	return 1 << i
}

// first is the set of the indexes less than n.
func first(n int) set {
	return only(n) - 1
}

// setOf returns the set of a list of indexes less than n, and false if one is none or there twice.
func setOf(list []int, n int) (set, bool) {
	var s set
	for _, i := range list {
		if !within(i, 0, n-1) || s&only(i) != 0 {
			return 0, false
		}
		s |= only(i)
	}
	return s, true
}

func (s set) count() int {
	return bits.OnesCount64(uint64(s))
}

// indexes goes through the elements in ascending order.
func (s set) indexes() iter.Seq[int] {
	return func(yield func(int) bool) {
		for left := s; left != 0; left &= left - 1 {
			if !yield(bits.TrailingZeros64(uint64(left))) {
				return
			}
		}
	}
}

func (s set) list() []int {
	return slices.Collect(s.indexes())
}
