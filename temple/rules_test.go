package temple_test

import (
	"math"
	"reflect"
	"slices"
	"testing"

	"pantoscope/api"
	"pantoscope/temple"
)

// tolCalls are the functions of a list and a tolerance.
func tolCalls(l []api.Temple, tol int, list []int, pairs [][2]int) map[string][]any {
	return map[string][]any{
		"Check":   results(temple.Check(l, tol, pairs)),
		"Match":   results(temple.Match(l, tol)),
		"Most":    results(temple.Most(l, tol)),
		"IsGuard": results(temple.IsGuard(l, tol, list)),
		"Guard":   results(temple.Guard(l, tol)),
		"Rest":    results(temple.Rest(l, tol)),
	}
}

// P4.1, R2: ErrTemple comes first, whatever else is wrong.
func TestErrTempleFirst(t *testing.T) {
	for _, l := range badLists() {
		for _, n := range []int{0, -1, 1001, math.MinInt, math.MaxInt} {
			for name, r := range tolCalls(l, n, []int{n, n}, [][2]int{{n, n}}) {
				if !isError(r, api.ErrTemple) {
					t.Errorf("%s(%v) with %d: %v", name, l, n, r)
				}
			}
			for _, r := range [][]any{results(temple.Worst(l, [][2]int{{n, n}})), results(temple.Worst(l, nil)), results(temple.Tolerance(l, n))} {
				if !isError(r, api.ErrTemple) {
					t.Errorf("%v with %d: %v", l, n, r)
				}
			}
		}
	}
}

// P4.1, P4.2 to P4.4: ErrArg for a tolerance, also for lists without temples.
func TestErrArgOfTolerance(t *testing.T) {
	for _, tol := range []int{-1, 1001, math.MinInt, math.MaxInt} {
		for _, l := range [][]api.Temple{nil, many(1), many(60)} {
			for name, r := range tolCalls(l, tol, nil, nil) {
				if !isError(r, api.ErrArg) {
					t.Errorf("%s of %d temples with %d: %v", name, len(l), tol, r)
				}
			}
		}
	}
	for _, tol := range []int{0, 1000} {
		for name, r := range tolCalls(nil, tol, nil, nil) {
			if r[len(r)-1] != api.OK {
				t.Errorf("%s with %d: %v", name, tol, r)
			}
		}
	}
}

// R4: arguments are not changed, lists are read up to their length alone, and equal arguments give equal results.
func TestArgumentsStay(t *testing.T) {
	arguments := func() ([]api.Temple, []int, [][2]int) {
		return sides([]int{110, 100, 104}, []int{112, 103}), []int{4, 3}, [][2]int{{2, 4}, {0, 3}}
	}
	l, list, pairs := arguments()
	calls := func(l []api.Temple, list []int, pairs [][2]int) map[string][]any {
		all := tolCalls(l, 2, list, pairs)
		all["Valid"] = results(temple.Valid(l), api.OK)
		all["Worst"] = results(temple.Worst(l, pairs))
		all["Tolerance"] = results(temple.Tolerance(l, 2))
		return all
	}
	first := calls(l, list, pairs)
	longer := calls(append(l, api.Temple{})[:5], append(list, -1)[:2], append(pairs, [2]int{9, 9})[:2])
	if !reflect.DeepEqual(longer, first) {
		t.Error("an element beyond the length is read")
	}
	sameL, sameList, samePairs := arguments()
	if !slices.Equal(l, sameL) || !slices.Equal(list, sameList) || !slices.Equal(pairs, samePairs) {
		t.Error("an argument is changed")
	}
	for name, r := range first {
		if r[len(r)-1] != api.OK {
			t.Errorf("%s: %v", name, r)
		}
	}
}

// R4: results are new memory.
func TestResultsAreNew(t *testing.T) {
	l := sides([]int{100, 104}, []int{103})
	for range 2 {
		pairs := must[[][2]int](t)(temple.Match(l, 2))
		guard, rest := must[[]int](t)(temple.Guard(l, 2)), must[[]int](t)(temple.Rest(l, 2))
		if !slices.Equal(pairs, [][2]int{{1, 2}}) || len(guard) != 1 || guard[0] == 0 || !slices.Equal(rest, []int{0}) {
			t.Fatalf("%v, %v, %v", pairs, guard, rest)
		}
		pairs[0], guard[0], rest[0] = [2]int{7, 7}, 0, 7
	}
}
