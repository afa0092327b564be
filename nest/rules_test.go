package nest_test

import (
	"math"
	"reflect"
	"slices"
	"testing"

	"pantoscope/api"
	"pantoscope/nest"
)

// boardCalls are the functions of a board and parts.
func boardCalls(b api.Board, list []api.Part, l []api.Place, p api.Place, part int) map[string][]any {
	return map[string][]any{
		"Check":  results(nest.Check(b, list, l)),
		"Count":  results(nest.Count(b, list, l)),
		"Waste2": results(nest.Waste2(b, list, l)),
		"Rows":   results(nest.Rows(b, list, part)),
		"Bound":  results(nest.Bound(b, list, part)),
		"Free":   results(nest.Free(b, list, l, p)),
		"Drop":   results(nest.Drop(b, list, l, p)),
		"Mirror": results(nest.Mirror(b, list, l)),
	}
}

// partCalls are the functions of parts alone.
func partCalls(list []api.Part, l []api.Place, p api.Place) map[string][]any {
	return map[string][]any{
		"Lying":  results(nest.Lying(list, p)),
		"Extent": results(nest.Extent(list, l)),
	}
}

// P7.1, R2: ErrBoard comes first, whatever else is wrong.
func TestErrBoardFirst(t *testing.T) {
	layouts := [][]api.Place{nil, {at(0, 20, 20)}, {at(0, 20, 20), turnedAt(9, math.MinInt, math.MaxInt)}, repeated(201, at(0, 20, 20))}
	expect := func(calls map[string][]any, b api.Board, list []api.Part) {
		for name, r := range calls {
			if !isError(r, api.ErrBoard) {
				t.Errorf("%s(%v, %v): %v", name, b, list, r)
			}
		}
	}
	good := parts(corner(1, 1))
	for _, n := range []int{0, 1, -1, math.MinInt, math.MaxInt} {
		for _, l := range layouts {
			p := at(n, n, n)
			for _, b := range badBoards() {
				expect(boardCalls(b, good, l, p, n), b, good)
				expect(boardCalls(b, parts(nil), l, p, n), b, parts(nil))
			}
			for _, list := range badParts() {
				expect(boardCalls(board(100, 60, 10), list, l, p, n), board(100, 60, 10), list)
				expect(partCalls(list, l, p), api.Board{}, list)
			}
		}
	}
}

// arguments are a board, parts and a layout that is right.
func arguments() (api.Board, []api.Part, []api.Place) {
	b := board(200, 100, 10, rect(100, 0, 50, 50), rect(190, 90, 10, 10))
	list := []api.Part{{O: rolled(box(20, 20), 2)}, turning(xy(30, 0, 0, 40, 0, 0))}
	return b, list, []api.Place{at(0, 20, 20), turnedAt(1, 80, 40), at(1, 150, 50)}
}

// R4: arguments are not changed, lists are read up to their length alone, and equal arguments give equal results.
func TestArgumentsStay(t *testing.T) {
	calls := func(b api.Board, list []api.Part, l []api.Place) map[string][]any {
		all := boardCalls(b, list, l, at(0, 20, 75), 0)
		all["Lying"] = results(nest.Lying(list, turnedAt(1, 3, 4)))
		all["Extent"] = results(nest.Extent(list, l))
		all["Apart"] = results(nest.Apart(list[0].O, list[1].O, 3))
		all["Valid"] = results(nest.Valid(b, list), api.OK)
		return all
	}
	b, list, l := arguments()
	first := calls(b, list, l)
	sameB, sameList, sameL := arguments()
	if !sameBoard(b, sameB) || !sameParts(list, sameList) || !slices.Equal(l, sameL) {
		t.Error("an argument is changed")
	}
	long, longList, longL := arguments()
	long.Faults = append(long.Faults, rect(0, 0, 200, 100))[:2]
	for i, p := range longList {
		longList[i].O = append(p.O, xy(9999, 9999)...)[:len(p.O)]
	}
	longList = append(longList, api.Part{})[:2]
	longL = append(longL, at(-1, 0, 0))[:3]
	if !reflect.DeepEqual(calls(long, longList, longL), first) {
		t.Error("an element beyond the length is read")
	}
	for name, r := range first {
		if r[len(r)-1] != api.OK {
			t.Errorf("%s: %v", name, r)
		}
	}
}

// spoil writes into a list, and behind its length.
func spoil[T any](list []T, with T) {
	list = list[:cap(list)]
	for i := range list {
		list[i] = with
	}
}

// R4: results are new memory, also the lists of one result.
func TestResultsAreNew(t *testing.T) {
	b, list, l := arguments()
	bad := api.XY{X: -7, Y: -7}
	for range 2 {
		corners := must[[]api.XY](t)(nest.Lying(list, at(0, 0, 0)))
		counts := must[[]int](t)(nest.Count(b, list, l))
		rows := must[[]api.Place](t)(nest.Rows(b, list, 0))
		m, mirrored, places, err := nest.Mirror(b, list, l)
		if err != api.OK || corners[0] != (api.XY{X: -20, Y: -20}) || counts[1] != 2 || rows[0] != at(0, 20, 20) || places[0] != at(0, 180, 20) {
			t.Fatalf("%v, %v, %v, %v, %d", corners, counts, rows, places, err)
		}
		spoil(corners, bad)
		spoil(counts, 9)
		spoil(rows, at(9, 9, 9))
		spoil(m.Faults, rect(9, 9, 9, 9))
		spoil(places, at(9, 9, 9))
		spoil(mirrored[0].O, bad)
		if !slices.Equal(mirrored[1].O, xy(-30, 0, 0, 0, 0, 40)) {
			t.Error("two outlines of a result share memory")
		}
		spoil(mirrored[1].O, bad)
		spoil(mirrored, api.Part{})
		sameB, sameList, sameL := arguments()
		if !sameBoard(b, sameB) || !sameParts(list, sameList) || !slices.Equal(l, sameL) {
			t.Fatal("a result shares memory with an argument")
		}
	}
}

// R1: every call returns, whatever its arguments are.
func TestNoPanic(t *testing.T) {
	for _, n := range []int{0, -1, 1 << 31, math.MinInt, math.MaxInt} {
		p := turnedAt(n, n, n)
		b := board(n, n, n, rect(n, n, n, n))
		for _, list := range [][]api.Part{nil, parts(xy(n, n, 0, n, n, 0)), parts(nil)} {
			boardCalls(b, list, []api.Place{p}, p, n)
			boardCalls(board(9, 9, 9), list, []api.Place{p}, p, n)
			partCalls(list, []api.Place{p}, p)
			nest.Valid(b, list)
		}
		nest.Apart(xy(n, n, 0, n, n, 0), nil, n)
	}
}
