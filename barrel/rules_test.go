package barrel_test

import (
	"math"
	"reflect"
	"slices"
	"testing"

	"pantoscope/api"
	"pantoscope/barrel"
)

// listCalls are the functions of a list of batches, with a number for each of their other arguments.
func listCalls(l []api.Batch, n int, list []int, rows [][]int, runs [][]api.Run) map[string][]any {
	return map[string][]any{
		"Check":  results(barrel.Check(l, rows)),
		"Rows":   results(barrel.Rows(l)),
		"Fewest": results(barrel.Fewest(l)),
		"Apart":  results(barrel.Apart(l, list)),
		"Proof":  results(barrel.Proof(l)),
		"Length": results(barrel.Length(l, list)),
		"Assign": results(barrel.Assign(l, rows, n, n)),
		"Judge":  results(barrel.Judge(l, n, runs)),
		"Bound":  results(barrel.Bound(l, n, n)),
		"Stage":  results(barrel.Stage(l, runs[0][0], n, n)),
	}
}

// P6.1, R2: ErrBatch comes first, whatever else is wrong.
func TestErrBatchFirst(t *testing.T) {
	for _, l := range badLists() {
		for _, n := range []int{0, 1, -1, 101, math.MinInt, math.MaxInt} {
			for _, runs := range [][][]api.Run{{{{Batch: n, From: n, To: n, Clean: true}}}, {{{}}, make([]api.Run, 101)}, {{{Batch: n}}, 8: nil}} {
				for name, r := range listCalls(l, n, []int{n, n}, [][]int{{n, n}, {}}, runs) {
					if !isError(r, api.ErrBatch) {
						t.Errorf("%s(%v) with %d: %v", name, l, n, r)
					}
				}
			}
		}
		for name, r := range listCalls(l, 1, nil, nil, [][]api.Run{{{}}}) {
			if !isError(r, api.ErrBatch) {
				t.Errorf("%s(%v): %v", name, l, r)
			}
		}
	}
}

// R4: arguments are not changed, lists are read up to their length alone, and equal arguments give equal results.
func TestArgumentsStay(t *testing.T) {
	arguments := func() ([]api.Batch, []int, [][]int, [][]api.Run) {
		l := shades([2]int{4, 6}, [2]int{3, 4}, [2]int{2, 3}, [2]int{1, 5})
		return l, []int{3, 1}, [][]int{{2, 1}, {3, 0}}, [][]api.Run{{cleaned(2, 0, 11), next(1, 11, 18)}, {cleaned(3, 0, 12), next(0, 12, 18)}}
	}
	l, list, rows, runs := arguments()
	calls := func(l []api.Batch, list []int, rows [][]int, runs [][]api.Run) map[string][]any {
		all := listCalls(l, 3, list, rows, runs)
		all["Valid"] = results(barrel.Valid(l), api.OK)
		all["End"] = results(barrel.End(runs))
		all["Cleanings"] = results(barrel.Cleanings(runs))
		return all
	}
	first := calls(l, list, rows, runs)
	longRows := append(rows, []int{-1})[:2]
	longRuns := append(runs, []api.Run{{Batch: -1, To: 99, Clean: true}})[:2]
	for n := range 2 {
		longRows[n] = append(slices.Clone(rows[n]), -1)[:2]
		longRuns[n] = append(slices.Clone(runs[n]), api.Run{Batch: -1, To: 99, Clean: true})[:2]
	}
	if !reflect.DeepEqual(calls(append(l, api.Batch{})[:4], append(list, -1)[:2], longRows, longRuns), first) {
		t.Error("an element beyond the length is read")
	}
	sameL, sameList, sameRows, sameRuns := arguments()
	if !slices.Equal(l, sameL) || !slices.Equal(list, sameList) || !slices.EqualFunc(rows, sameRows, slices.Equal) || !equalRuns(runs, sameRuns) {
		t.Error("an argument is changed")
	}
	for name, r := range first {
		if r[len(r)-1] != api.OK {
			t.Errorf("%s: %v", name, r)
		}
	}
}

// R4: results are new memory, also the lists of one result.
func TestResultsAreNew(t *testing.T) {
	l := example()
	for range 2 {
		rows := must[[][]int](t)(barrel.Rows(l))
		proof := must[[]int](t)(barrel.Proof(l))
		runs := must[[][]api.Run](t)(barrel.Assign(l, rows, 2, 1))
		if !slices.EqualFunc(rows, [][]int{{0, 3}, {1, 2}}, slices.Equal) || len(proof) != 2 || proof[0] == 9 || runs[0][0].Batch != 0 {
			t.Fatalf("%v, %v, %v", rows, proof, runs)
		}
		row, list := append(rows[0], 7, 7), append(runs[0], api.Run{Batch: 7}, api.Run{Batch: 7})
		row[0], list[0], proof[0] = 9, api.Run{Batch: 9}, 9
		if rows[1][0] != 1 || runs[1][0].Batch != 1 {
			t.Error("two lists of a result share memory")
		}
		rows[0][0], runs[0][0] = 9, api.Run{Batch: 9}
	}
}
