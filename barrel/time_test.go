package barrel_test

import (
	"math"
	"math/rand/v2"
	"slices"
	"testing"

	"pantoscope/api"
	"pantoscope/barrel"
)

// four are batches of 10, 10, 3 and 7 hours that may follow each other.
func four() []api.Batch {
	return []api.Batch{{Number: 1, Hours: [4]int{1, 2, 3, 4}}, {Number: 2, Hours: [4]int{10, 0, 0, 0}}, {Number: 3, Hours: [4]int{0, 0, 0, 3}}, {Number: 4, Hours: [4]int{0, 7, 0, 0}}}
}

// equalRuns tells whether the runs of all barrels are equal.
func equalRuns(a, b [][]api.Run) bool {
	return slices.EqualFunc(a, b, slices.Equal)
}

// P6.6: also the chapter's example 2, barrels that are free at the same hour, and ones that do nothing.
func TestAssign(t *testing.T) {
	none := []api.Batch{batch(1, 0, 0, 0), batch(2, 0, 0, 0), batch(3, 0, 0, 0)}
	for name, c := range map[string]struct {
		l              []api.Batch
		rows           [][]int
		barrels, clean int
		runs           [][]api.Run
	}{
		"example":        {four()[:2], [][]int{{0, 1}}, 1, 2, [][]api.Run{{cleaned(0, 0, 12), next(1, 12, 22)}}},
		"in other order": {four()[:2], [][]int{{1, 0}}, 1, 2, [][]api.Run{{cleaned(1, 0, 12), next(0, 12, 22)}}},
		"two rows":       {four()[:2], [][]int{{1}, {0}}, 1, 2, [][]api.Run{{cleaned(1, 0, 12), cleaned(0, 12, 24)}}},
		"two barrels":    {four(), [][]int{{0}, {2}, {1}, {3}}, 2, 1, [][]api.Run{{cleaned(0, 0, 11), cleaned(3, 11, 19)}, {cleaned(2, 0, 4), cleaned(1, 4, 15)}}},
		"at once free":   {four(), [][]int{{0}, {1}, {2}, {3}}, 2, 0, [][]api.Run{{cleaned(0, 0, 10), cleaned(2, 10, 13)}, {cleaned(1, 0, 10), cleaned(3, 10, 17)}}},
		"three barrels":  {four(), [][]int{{0, 3}, {1}, {2}}, 3, 100, [][]api.Run{{cleaned(0, 0, 110), next(3, 110, 117)}, {cleaned(1, 0, 110)}, {cleaned(2, 0, 103)}}},
		"idle barrels":   {four(), [][]int{{3, 2, 1, 0}}, 8, 5, [][]api.Run{{cleaned(3, 0, 12), next(2, 12, 15), next(1, 15, 25), next(0, 25, 35)}, nil, nil, nil, nil, nil, nil, nil}},
		"no hours":       {none, [][]int{{2}, {0}, {1}}, 2, 0, [][]api.Run{{cleaned(2, 0, 0), cleaned(0, 0, 0), cleaned(1, 0, 0)}, nil}},
		"cleaning alone": {none, [][]int{{2}, {0}, {1}}, 2, 3, [][]api.Run{{cleaned(2, 0, 3), cleaned(1, 3, 6)}, {cleaned(0, 0, 3)}}},
		"no batches":     {nil, nil, 3, 7, [][]api.Run{nil, nil, nil}},
	} {
		if runs := must[[][]api.Run](t)(barrel.Assign(c.l, c.rows, c.barrels, c.clean)); !equalRuns(runs, c.runs) {
			t.Errorf("%s: %v", name, runs)
		}
	}
}

// P6.6: the errors of Check come before ErrArg.
func TestAssignErrors(t *testing.T) {
	l := example()
	good := [][]int{{0, 3}, {1, 2}}
	for _, n := range []int{-1, 101, math.MinInt, math.MaxInt} {
		for _, c := range []struct {
			rows [][]int
			err  api.Errno
		}{
			{good, api.ErrArg}, {[][]int{{0, 3}, {1, 4}}, api.ErrArg}, {[][]int{{0, 3}, {1, 2, 1}}, api.ErrTwice}, {[][]int{{0, 1}, {2, 3}}, api.ErrDirty}, {[][]int{{0, 3}}, api.ErrLimit}, {[][]int{{0, 3}, {}, {1, 2}}, api.ErrLimit},
		} {
			for _, r := range [][]any{results(barrel.Assign(l, c.rows, n, 0)), results(barrel.Assign(l, c.rows, 1, n)), results(barrel.Assign(l, c.rows, n, n))} {
				if !isError(r, c.err) {
					t.Errorf("%v with %d: %v, want %d", c.rows, n, r, c.err)
				}
			}
		}
	}
	for _, c := range []struct {
		rows [][]int
		err  api.Errno
	}{
		{[][]int{{0, 3}, {1, 4}}, api.ErrArg}, {[][]int{{0, 3}, {1, 2, 1}}, api.ErrTwice}, {[][]int{{0, 1}, {2, 3}}, api.ErrDirty}, {[][]int{{0, 3}}, api.ErrLimit}, {nil, api.ErrLimit},
	} {
		if r := results(barrel.Assign(l, c.rows, 2, 5)); !isError(r, c.err) {
			t.Errorf("%v: %v, want %d", c.rows, r, c.err)
		}
	}
}

// P6.5, P6.6: how many barrels there may be, and how long cleaning may take, also without batches.
func TestErrorsOfBarrels(t *testing.T) {
	for _, l := range [][]api.Batch{nil, equals(1), equals(40)} {
		var rows [][]int
		if len(l) > 0 {
			rows = [][]int{all(len(l))}
		}
		for _, c := range [][2]int{{0, 0}, {-1, 5}, {9, 5}, {math.MinInt, 5}, {math.MaxInt, 5}, {1, -1}, {8, 101}, {1, math.MinInt}, {1, math.MaxInt}, {0, -1}} {
			for name, r := range map[string][]any{"Assign": results(barrel.Assign(l, rows, c[0], c[1])), "Bound": results(barrel.Bound(l, c[0], c[1]))} {
				if !isError(r, api.ErrArg) {
					t.Errorf("%s of %d batches with %v: %v", name, len(l), c, r)
				}
			}
		}
		for _, c := range [][2]int{{1, 0}, {8, 0}, {1, 100}, {8, 100}} {
			must[[][]api.Run](t)(barrel.Assign(l, rows, c[0], c[1]))
			must[int](t)(barrel.Bound(l, c[0], c[1]))
		}
	}
}

// P6.5: the longest batch, or what the barrels share, rounded up.
func TestBound(t *testing.T) {
	for name, c := range map[string]struct {
		l                    []api.Batch
		barrels, clean, want int
	}{
		"nil": {nil, 3, 100, 0}, "none": {[]api.Batch{}, 8, 0, 0}, "one": {equals(1), 1, 7, 11}, "one of many barrels": {equals(1), 8, 7, 11}, "no hours": {[]api.Batch{batch(1, 0, 0, 0)}, 2, 3, 3}, "nothing": {[]api.Batch{batch(1, 0, 0, 0)}, 2, 0, 0},
		"one barrel": {four(), 1, 2, 32}, "two barrels": {four(), 2, 2, 17}, "three": {four(), 3, 2, 12}, "the longest": {four(), 4, 2, 12}, "more than batches": {four(), 8, 2, 12}, "no cleaning": {four(), 2, 0, 15},
		"rounded up": {equals(3), 2, 0, 6}, "up by one third": {four()[1:], 3, 1, 11}, "20 by 3": {equals(5), 3, 0, 7}, "20 by 3, cleaned": {equals(5), 3, 1, 8}, "20 by 8": {equals(5), 8, 0, 4}, "160 by 7": {equals(40), 7, 100, 123}, "160 by 8": {equals(40), 8, 100, 120},
	} {
		if n := must[int](t)(barrel.Bound(c.l, c.barrels, c.clean)); n != c.want {
			t.Errorf("%s: %d, want %d", name, n, c.want)
		}
	}
}

// P6.5: many lists, by the terms of the chapter.
func TestBoundMany(t *testing.T) {
	r := rand.New(rand.NewPCG(7, 8))
	long := 0
	for range 3000 {
		l, barrels, clean := randomBatches(r, api.MaxBatches), 1+r.IntN(8), r.IntN(101)
		sum, longest, shared := 0, 0, math.MaxInt
		for _, b := range l {
			sum, longest = sum+lengthOf(b), max(longest, lengthOf(b))
		}
		for b := 1; b <= barrels && b <= len(l); b++ {
			n := 0
			for n*b < sum+b*clean {
				n++
			}
			shared = min(shared, n)
		}
		want := 0
		if len(l) > 0 {
			want = max(longest+clean, shared)
		}
		if n := must[int](t)(barrel.Bound(l, barrels, clean)); n != want {
			t.Fatalf("Bound(%v, %d, %d): %d, want %d", l, barrels, clean, n, want)
		}
		if longest+clean > shared {
			long++
		}
	}
	if long < 100 || long > 2900 {
		t.Errorf("the longest batch counts in %d", long)
	}
}

// P6.7: the greatest To, and how many runs have Clean, whatever else the runs are.
func TestEndAndCleanings(t *testing.T) {
	most := make([][]api.Run, 8)
	for k := range most {
		most[k] = make([]api.Run, 100)
	}
	most[7][99] = api.Run{To: 5, Clean: true}
	for name, c := range map[string]struct {
		runs           [][]api.Run
		end, cleanings int
	}{
		"nil": {nil, 0, 0}, "none": {[][]api.Run{}, 0, 0}, "empty": {[][]api.Run{nil, {}}, 0, 0}, "most": {most, 5, 1},
		"example":    {[][]api.Run{{cleaned(0, 0, 12), next(1, 12, 22)}}, 22, 1},
		"not sorted": {[][]api.Run{{}, {cleaned(-5, 7, 30), cleaned(9, 0, 4)}, {cleaned(0, -3, 29)}}, 30, 3},
		"below 0":    {[][]api.Run{{next(0, 0, -9)}, {next(0, 0, -4), next(0, 0, -7)}}, -4, 0},
		"borders":    {[][]api.Run{{next(0, 0, math.MinInt)}, {cleaned(0, math.MaxInt, math.MaxInt)}}, math.MaxInt, 1},
		"the least":  {[][]api.Run{{next(0, 0, math.MinInt)}}, math.MinInt, 0},
	} {
		if n := must[int](t)(barrel.End(c.runs)); n != c.end {
			t.Errorf("End, %s: %d", name, n)
		}
		if n := must[int](t)(barrel.Cleanings(c.runs)); n != c.cleanings {
			t.Errorf("Cleanings, %s: %d", name, n)
		}
	}
}

// tooMany are runs of too many barrels, or too many ones of a barrel.
func tooMany() [][][]api.Run {
	run := api.Run{To: 9, Clean: true}
	return [][][]api.Run{
		make([][]api.Run, 9), {8: {run}}, {slices.Repeat([]api.Run{run}, 101)}, {{run}, slices.Repeat([]api.Run{run}, 101)}, {7: make([]api.Run, 101)}, make([][]api.Run, 100_000), {make([]api.Run, 100_000)},
	}
}

// P6.7: too many barrels, or too many runs of a barrel.
func TestTooManyRuns(t *testing.T) {
	for n, runs := range tooMany() {
		for name, r := range map[string][]any{
			"End": results(barrel.End(runs)), "Cleanings": results(barrel.Cleanings(runs)), "Judge": results(barrel.Judge(equals(1), 0, runs)), "Judge, nil": results(barrel.Judge(nil, 0, runs)),
		} {
			if !isError(r, api.ErrArg) {
				t.Errorf("%s, %d: %v", name, n, r)
			}
		}
	}
}
