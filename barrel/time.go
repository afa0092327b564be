package barrel

import (
	"cmp"
	"slices"

	"pantoscope/api"
)

// Limits of barrels.
const (
	maxClean = 100
	maxRuns  = 100
)

// Assign returns the runs of each barrel if each row is given to the barrel that is free first.
func Assign(l []api.Batch, rows [][]int, barrels, clean int) ([][]api.Run, api.Errno) {
	if err := Check(l, rows); err != api.OK {
		return nil, err
	}
	if !validBarrels(barrels, clean) {
		return nil, api.ErrArg
	}
	runs := make([][]api.Run, barrels)
	var free [api.MaxBarrels]int
	for _, row := range rows {
		k := leastOf(free[:barrels])
		for n, i := range row {
			r := api.Run{Batch: i, From: free[k], Clean: n == 0}
			hours := hoursOf(l[i], r.Clean, clean)
			r.To = r.From + sum(hours[:])
			free[k] = r.To
			runs[k] = append(runs[k], r)
		}
	}
	return runs, api.OK
}

// End returns the hour at which the last run ends.
func End(runs [][]api.Run) (int, api.Errno) {
	if !validRuns(runs) {
		return 0, api.ErrArg
	}
	all := slices.Concat(runs...)
	if len(all) == 0 {
		return 0, api.OK
	}
	latest := slices.MaxFunc(all, func(r, s api.Run) int { return cmp.Compare(r.To, s.To) })
	return latest.To, api.OK
}

// Cleanings returns the number of runs with cleaning.
func Cleanings(runs [][]api.Run) (int, api.Errno) {
	if !validRuns(runs) {
		return 0, api.ErrArg
	}
	cleanings := 0
	for _, r := range slices.Concat(runs...) {
		if r.Clean {
			cleanings++
		}
	}
	return cleanings, api.OK
}

// Bound returns how early all batches can be done at best.
func Bound(l []api.Batch, barrels, clean int) (int, api.Errno) {
	if !Valid(l) {
		return 0, api.ErrBatch
	}
	if !validBarrels(barrels, clean) {
		return 0, api.ErrArg
	}
	all, longest := 0, 0
	for _, b := range l {
		all += length(b)
		longest = max(longest, length(b))
	}
	used := min(barrels, len(l))
	if used == 0 {
		return 0, api.OK
	}
	// Every barrel that is used is cleaned for clean hours and shares the polishing, so the most barrels are the best ones.
	return clean + max(longest, (all+used-1)/used), api.OK
}

func validBarrels(barrels, clean int) bool {
	return within(barrels, 1, api.MaxBarrels) && within(clean, 0, maxClean)
}

func validRuns(runs [][]api.Run) bool {
	tooLong := func(list []api.Run) bool { return len(list) > maxRuns }
	return len(runs) <= api.MaxBarrels && !slices.ContainsFunc(runs, tooLong)
}

// leastOf returns the index of the least number, of several the first one.
func leastOf(list []int) int {
	return slices.Index(list, slices.Min(list))
}
