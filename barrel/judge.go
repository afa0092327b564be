package barrel

import (
	"slices"

	"pantoscope/api"
)

// outside is what Stage calls an hour that a run does not include: the number behind those of the stages.
const outside = 5

// Judge tells what is wrong with the runs of barrels, and with which run of which barrel.
func Judge(l []api.Batch, clean int, runs [][]api.Run) (barrel, run int, err api.Errno) {
	if !Valid(l) {
		return 0, 0, api.ErrBatch
	}
	if !within(clean, 0, maxClean) || !validRuns(runs) {
		return 0, 0, api.ErrArg
	}
	done := make([]bool, len(l))
	for k, list := range runs {
		for n := range list {
			if err := judgeRun(l, clean, done, list, n); err != api.OK {
				return k, n, err
			}
		}
	}
	if slices.Contains(done, false) {
		return 0, 0, api.ErrLimit
	}
	return 0, 0, api.OK
}

// Stage returns in which stage the batch of a run is at an hour: 0 for cleaning, 5 if the run does not include the hour.
func Stage(l []api.Batch, r api.Run, clean, hour int) (int, api.Errno) {
	if !Valid(l) {
		return 0, api.ErrBatch
	}
	if !within(clean, 0, maxClean) || !isIndex(r.Batch, l) || !endsRight(l, r, clean) {
		return 0, api.ErrArg
	}
	if hour < r.From || hour >= r.To {
		return outside, api.OK
	}
	passed := hour - r.From
	for stage, hours := range hoursOf(l[r.Batch], r.Clean, clean) {
		if passed < hours {
			return stage, api.OK
		}
		passed -= hours
	}
	return outside, api.OK
}

// judgeRun tells what is wrong with run n of a barrel; the runs in front of it are judged already. It notes its batch as done.
func judgeRun(l []api.Batch, clean int, done []bool, list []api.Run, n int) api.Errno {
	r, first := list[n], n == 0
	if !isIndex(r.Batch, l) || r.From < 0 {
		return api.ErrArg
	}
	if done[r.Batch] {
		return api.ErrTwice
	}
	done[r.Batch] = true
	if !first && r.From < list[n-1].To || !endsRight(l, r, clean) {
		return api.ErrClash
	}
	if !r.Clean && (first || !may(l[list[n-1].Batch], l[r.Batch])) {
		return api.ErrDirty
	}
	return api.OK
}

// hoursOf returns the hours of a run: those of cleaning, and those of the four stages.
func hoursOf(b api.Batch, cleaned bool, clean int) [5]int {
	if !cleaned {
		clean = 0
	}
	return [5]int{clean, b.Hours[0], b.Hours[1], b.Hours[2], b.Hours[3]}
}

// endsRight tells whether a run ends when its hours are over.
func endsRight(l []api.Batch, r api.Run, clean int) bool {
	hours := hoursOf(l[r.Batch], r.Clean, clean)
	// With To at least From, a difference that does not fit into an int turns negative, and is never that of the hours.
	return r.To >= r.From && r.To-r.From == sum(hours[:])
}
