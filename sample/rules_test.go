package sample_test

import (
	"reflect"
	"slices"
	"sync"
	"testing"

	"pantoscope/api"
	"pantoscope/sample"
)

// calls are the functions of lists.
func calls(found, more []int, pieces []bool, drawn []int) map[string][]any {
	return map[string][]any{
		"History": results(sample.History(example, found)),
		"State":   results(sample.State(example, found)),
		"Restart": results(sample.Restart(example, found, more)),
		"Bad":     results(sample.Bad(pieces, drawn)),
	}
}

// R4: arguments are not changed, lists are read up to their length alone, and equal arguments give equal results.
func TestArgumentsStay(t *testing.T) {
	arguments := func() ([]int, []int, []bool, []int) {
		return lots("xxxxxxx"), lots(".....x"), []bool{true, false, true}, []int{2, 0}
	}
	found, more, pieces, drawn := arguments()
	first := calls(found, more, pieces, drawn)
	longer := calls(append(found, -1)[:7], append(more, -1)[:6], append(pieces, true)[:3], append(drawn, 7)[:2])
	if !reflect.DeepEqual(longer, first) {
		t.Error("an element beyond the length is read")
	}
	sameFound, sameMore, samePieces, sameDrawn := arguments()
	if !slices.Equal(found, sameFound) || !slices.Equal(more, sameMore) || !slices.Equal(pieces, samePieces) || !slices.Equal(drawn, sameDrawn) {
		t.Error("an argument is changed")
	}
	for name, r := range first {
		if r[len(r)-1] != api.OK {
			t.Errorf("%s: %v", name, r)
		}
	}
}

// R4: an empty list is a nil one.
func TestEmptyLists(t *testing.T) {
	for _, empty := range [][]int{nil, {}} {
		for _, r := range [][]any{results(sample.History(example, empty)), results(sample.Restart(example, lots("xxxxxxx"), empty))} {
			if len(r[0].([]api.Inspected)) != 0 || r[2] != api.OK {
				t.Errorf("%v", r)
			}
		}
		if n := must[int](t)(sample.Bad([]bool{true}, empty)); n != 0 {
			t.Errorf("Bad: %d", n)
		}
	}
	if n := must[int](t)(sample.Bad([]bool{}, nil)); n != 0 {
		t.Errorf("Bad: %d", n)
	}
}

// R4: results are new memory.
func TestResultsAreNew(t *testing.T) {
	for range 2 {
		done, _, err := sample.History(example, lots("x."))
		if err != api.OK || !slices.Equal(done, []api.Inspected{{State: 1}, {State: 1, Accepted: true}}) {
			t.Fatalf("%v, %d", done, err)
		}
		ways, drawn := must[[]int](t)(sample.Ways(4, 1, 2)), must[[]int](t)(sample.Draw(1, 10, 3))
		if !slices.Equal(ways, []int{3, 3, 0}) || !slices.Equal(drawn, []int{1, 7, 8}) {
			t.Fatalf("%v, %v", ways, drawn)
		}
		done[0], ways[0], drawn[0] = api.Inspected{State: 4}, 7, 9
	}
}

// R1: calls that go on beside each other have the results of one alone.
func TestStricterTogether(t *testing.T) {
	var all sync.WaitGroup
	wrong := make([]bool, 20)
	for i := range wrong {
		all.Go(func() {
			for range 20 {
				is, err := sample.Stricter(plan(20, 1+i%2), plan(20, 1), api.MaxLot)
				wrong[i] = wrong[i] || is != (i%2 == 0) || err != api.OK
			}
		})
	}
	all.Wait()
	if slices.Contains(wrong, true) {
		t.Errorf("%v", wrong)
	}
}
