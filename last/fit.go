package last

import "pantoscope/api"

// Limits of heads and sizes.
const (
	maxNumber = 1_000_000_000
	maxBend   = 100
	maxTotal  = 500
)

// total is what Faults calls the sum of all needs: the index behind those of the measures.
const total = 5

func within(n, least, most int) bool {
	return least <= n && n <= most
}

func validHead(h api.Head) bool {
	for _, m := range h.M {
		if !within(m, 0, api.MaxMeasure) {
			return false
		}
	}
	return within(h.Number, 1, maxNumber)
}

func validSize(s api.Size) bool {
	for i := range s.From {
		if !within(s.From[i], 0, s.To[i]) || s.To[i] > api.MaxMeasure || !within(s.Bend[i], 0, maxBend) {
			return false
		}
	}
	return within(s.Code, 1, maxNumber) && within(s.Total, 0, maxTotal)
}

// validList tells whether a list has at most so many elements, all valid and with different numbers.
func validList[T any](list []T, most int, valid func(T) bool, number func(T) int) bool {
	if len(list) > most {
		return false
	}
	seen := map[int]bool{}
	for _, e := range list {
		if !valid(e) || seen[number(e)] {
			return false
		}
		seen[number(e)] = true
	}
	return true
}

func checkPair(s api.Size, h api.Head) api.Errno {
	if !validSize(s) {
		return api.ErrSize
	}
	if !validHead(h) {
		return api.ErrHead
	}
	return api.OK
}

func needs(s api.Size, h api.Head) [5]int {
	var list [5]int
	for i, m := range h.M {
		list[i] = max(s.From[i]-m, m-s.To[i], 0)
	}
	return list
}

func sum(list [5]int) int {
	all := 0
	for _, n := range list {
		all += n
	}
	return all
}

func faults(s api.Size, h api.Head) []int {
	need := needs(s, h)
	var list []int
	for i, n := range need {
		if n > s.Bend[i] {
			list = append(list, i)
		}
	}
	if sum(need) > s.Total {
		list = append(list, total)
	}
	return list
}

func fits(s api.Size, h api.Head) bool {
	return len(faults(s, h)) == 0
}
