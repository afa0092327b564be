package sample

import (
	"cmp"
	"math/bits"
	"slices"
	"sync"

	"pantoscope/api"
)

// Choose returns C(n, k).
func Choose(n, k int) (int, api.Errno) {
	if !within(n, 0, api.MaxLot) {
		return 0, api.ErrArg
	}
	return choose(n, k), api.OK
}

// Ways returns in how many of the samples of a lot 0, 1, .. pieces are bad.
func Ways(lot, bad, sample int) ([]int, api.Errno) {
	if !within(lot, 0, api.MaxLot) || !within(bad, 0, lot) || !within(sample, 0, lot) {
		return nil, api.ErrArg
	}
	return ways(lot, bad, sample), api.OK
}

// Chance returns the chance that a lot with so many bad pieces is accepted.
func Chance(p api.Plan, lot, bad int) (num, den int, err api.Errno) {
	if !Valid(p) {
		return 0, 0, api.ErrPlan
	}
	if !within(lot, p.Sample, api.MaxLot) || !within(bad, 0, lot) {
		return 0, 0, api.ErrArg
	}
	c := chance(p, lot, bad)
	return c[0], c[1], api.OK
}

// Compare returns -1, 0 or 1 as the first fraction is less than, equal to, or greater than the second one.
func Compare(a, b [2]int) (int, api.Errno) {
	if !isFraction(a) || !isFraction(b) {
		return 0, api.ErrArg
	}
	return compare(a, b), api.OK
}

// Stricter reports whether for every number of bad pieces the chance of p is at most that of q.
func Stricter(p, q api.Plan, lot int) (bool, api.Errno) {
	if !Valid(p) || !Valid(q) {
		return false, api.ErrPlan
	}
	if !within(lot, max(p.Sample, q.Sample), api.MaxLot) {
		return false, api.ErrArg
	}
	greater := make([]bool, lot+1)
	var all sync.WaitGroup
	for bad := range greater {
		all.Add(1)
		go func() {
			defer all.Done()
			greater[bad] = compare(chance(p, lot, bad), chance(q, lot, bad)) > 0
		}()
	}
	all.Wait()
	return !slices.Contains(greater, true), api.OK
}

// Least returns the least Sample with which the chance of a lot with so many bad pieces is at most a fraction.
func Least(lot, bad, accept int, most [2]int) (int, api.Errno) {
	if !within(lot, 1, api.MaxLot) || !within(bad, 0, lot) || !within(accept, 0, lot-1) || !isFraction(most) {
		return 0, api.ErrArg
	}
	for sample := accept + 1; sample <= lot; sample++ {
		if compare(chance(api.Plan{Sample: sample, Accept: accept}, lot, bad), most) <= 0 {
			return sample, api.OK
		}
	}
	return 0, api.ErrLimit
}

// choose is exact for n up to MaxLot: no product on the way is greater than 30 * C(60, 30), which is less than 2^62.
func choose(n, k int) int {
	if !within(k, 0, n) {
		return 0
	}
	c := 1
	for i := range k {
		c = c * (n - i) / (i + 1)
	}
	return c
}

func ways(lot, bad, sample int) []int {
	list := make([]int, sample+1)
	for i := range list {
		list[i] = choose(bad, i) * choose(lot-bad, sample-i)
	}
	return list
}

// chance is a fraction in lowest terms.
func chance(p api.Plan, lot, bad int) [2]int {
	accepted := 0
	for _, n := range ways(lot, bad, p.Sample)[:p.Accept+1] {
		accepted += n
	}
	all := choose(lot, p.Sample)
	d := divisor(accepted, all)
	return [2]int{accepted / d, all / d}
}

// divisor is the greatest common one.
func divisor(a, b int) int {
	for b != 0 {
		a, b = b, a%b
	}
	return a
}

func isFraction(f [2]int) bool {
	return f[0] >= 0 && f[1] > 0
}

// compare multiplies crosswise into two words, as the products may not fit into one.
func compare(a, b [2]int) int {
	high, low := bits.Mul64(uint64(a[0]), uint64(b[1]))
	otherHigh, otherLow := bits.Mul64(uint64(b[0]), uint64(a[1]))
	return cmp.Or(cmp.Compare(high, otherHigh), cmp.Compare(low, otherLow))
}
