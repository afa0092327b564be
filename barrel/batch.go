package barrel

import "pantoscope/api"

// Limits of batches.
const (
	maxNumber = 1_000_000_000
	maxDark   = 9
	maxGrain  = 9
	maxHours  = 100
)

func within(n, least, most int) bool {
	return least <= n && n <= most
}

func isIndex(i int, l []api.Batch) bool {
	return within(i, 0, len(l)-1)
}

func validBatch(b api.Batch) bool {
	for _, h := range b.Hours {
		if !within(h, 0, maxHours) {
			return false
		}
	}
	return within(b.Number, 1, maxNumber) && within(b.Dark, 0, maxDark) && within(b.Grain, 0, maxGrain)
}

// checkList checks a list of batches and some different indexes of it.
func checkList(l []api.Batch, list []int) api.Errno {
	if !Valid(l) {
		return api.ErrBatch
	}
	seen := make([]bool, len(l))
	for _, i := range list {
		if !isIndex(i, l) || seen[i] {
			return api.ErrArg
		}
		seen[i] = true
	}
	return api.OK
}

// may tells whether b may follow a.
func may(a, b api.Batch) bool {
	return b.Dark >= a.Dark && b.Grain >= a.Grain
}

func areApart(l []api.Batch, list []int) bool {
	for n, i := range list {
		for _, j := range list[:n] {
			if may(l[i], l[j]) || may(l[j], l[i]) {
				return false
			}
		}
	}
	return true
}

func sum(list []int) int {
	all := 0
	for _, n := range list {
		all += n
	}
	return all
}

func length(b api.Batch) int {
	return sum(b.Hours[:])
}
