package temple_test

import (
	"math"
	"testing"

	"pantoscope/api"
	"pantoscope/temple"
)

// P4.2: what is valid, also at the borders.
func TestValid(t *testing.T) {
	for name, l := range map[string][]api.Temple{
		"nil": nil, "none": {}, "one": {left(1, 1400, 1)}, "most": many(api.MaxTemples), "equal but for the Number": {left(5, 3, 3), left(4, 3, 3)},
		"borders": {left(1, 1, 1), right(1_000_000_000, 2000, 9)}, "one side": {left(9, 2000, 1), left(8, 1, 9)},
	} {
		if !temple.Valid(l) {
			t.Errorf("%s", name)
		}
	}
	for _, l := range badLists() {
		if temple.Valid(l) {
			t.Errorf("valid: %v", l)
		}
	}
}

// P4.2: sides, colours and lengths, either way round.
func TestCanPair(t *testing.T) {
	for _, c := range []struct {
		a, b api.Temple
		tol  int
		want bool
	}{
		{left(1, 100, 1), right(2, 100, 1), 0, true}, {left(1, 100, 1), right(2, 101, 1), 0, false},
		{left(1, 100, 1), right(2, 102, 1), 2, true}, {left(1, 100, 1), right(2, 98, 1), 2, true},
		{left(1, 100, 1), right(2, 103, 1), 2, false}, {left(1, 100, 1), right(2, 97, 1), 2, false},
		{left(1, 100, 1), left(2, 100, 1), 2, false}, {right(1, 100, 1), right(2, 100, 1), 1000, false},
		{left(1, 100, 1), right(2, 100, 2), 1000, false}, {left(1, 100, 9), right(2, 100, 9), 0, true},
		{left(1, 1, 1), right(2, 1001, 1), 1000, true}, {left(1, 1, 1), right(2, 1002, 1), 1000, false},
		{left(1, 2000, 1), right(2, 1000, 1), 1000, true}, {left(1, 2000, 1), right(2, 1, 1), 1000, false},
	} {
		if ok := must[bool](t)(temple.CanPair(c.a, c.b, c.tol)); ok != c.want {
			t.Errorf("%v, %v, %d: %t", c.a, c.b, c.tol, ok)
		}
		if ok := must[bool](t)(temple.CanPair(c.b, c.a, c.tol)); ok != c.want {
			t.Errorf("%v, %v, %d: %t", c.b, c.a, c.tol, ok)
		}
	}
}

// P4.2: ErrTemple, also of two temples with one Number, then ErrArg.
func TestCanPairErrors(t *testing.T) {
	good := right(8, 1400, 1)
	for _, tol := range []int{5, -1, 1001, math.MinInt, math.MaxInt} {
		for _, b := range badTemples() {
			for _, r := range [][]any{results(temple.CanPair(b, good, tol)), results(temple.CanPair(good, b, tol)), results(temple.CanPair(b, b, tol))} {
				if !isError(r, api.ErrTemple) {
					t.Errorf("%v, %d: %v", b, tol, r)
				}
			}
		}
		if r := results(temple.CanPair(left(8, 1400, 1), good, tol)); !isError(r, api.ErrTemple) {
			t.Errorf("one Number, %d: %v", tol, r)
		}
		if r := results(temple.CanPair(left(7, 1400, 1), good, tol)); tol != 5 && !isError(r, api.ErrArg) {
			t.Errorf("%d: %v", tol, r)
		}
	}
}

// P4.2: pairings that Check accepts, in any order.
func TestCheckAccepts(t *testing.T) {
	l := sides([]int{100, 104, 110}, []int{103, 112})
	for _, pairs := range [][][2]int{nil, {}, {{1, 3}}, {{2, 4}}, {{1, 3}, {2, 4}}, {{2, 4}, {1, 3}}} {
		if err := temple.Check(l, 2, pairs); err != api.OK {
			t.Errorf("%v: %d", pairs, err)
		}
	}
	if temple.Check(nil, 0, nil) != api.OK || temple.Check(many(60), 1000, [][2]int{{58, 59}, {0, 1}}) != api.OK {
		t.Error("no temples, or the greatest indexes")
	}
	if temple.Check(sides([]int{1, 2}, []int{1001}), 1000, [][2]int{{0, 2}}) != api.OK {
		t.Error("the greatest tolerance")
	}
}

// P4.2: the first error that applies: an index of any pair, then ErrTwice and ErrPair, pair by pair.
func TestCheckErrors(t *testing.T) {
	l := append(sides([]int{100, 104, 110}, []int{103, 112}), right(9, 100, 2))
	for _, c := range []struct {
		pairs [][2]int
		err   api.Errno
	}{
		{[][2]int{{-1, 3}}, api.ErrArg}, {[][2]int{{1, -1}}, api.ErrArg}, {[][2]int{{6, 3}}, api.ErrArg}, {[][2]int{{1, 6}}, api.ErrArg},
		{[][2]int{{math.MinInt, math.MaxInt}}, api.ErrArg}, {[][2]int{{1 << 32, 3}}, api.ErrArg}, {[][2]int{{9, 9}}, api.ErrArg},
		{[][2]int{{0, 0}, {1, 6}}, api.ErrArg}, {[][2]int{{3, 1}, {-1, 3}}, api.ErrArg}, {[][2]int{{1, 3}, {1, 3}, {1, 7}}, api.ErrArg},
		{[][2]int{{1, 1}}, api.ErrTwice}, {[][2]int{{3, 3}}, api.ErrTwice}, {[][2]int{{1, 3}, {1, 3}}, api.ErrTwice},
		{[][2]int{{1, 3}, {1, 4}}, api.ErrTwice}, {[][2]int{{1, 3}, {2, 3}}, api.ErrTwice}, {[][2]int{{1, 3}, {3, 1}}, api.ErrTwice},
		{[][2]int{{1, 3}, {3, 4}}, api.ErrTwice}, {[][2]int{{1, 3}, {0, 1}}, api.ErrTwice}, {[][2]int{{1, 3}, {2, 4}, {5, 5}}, api.ErrTwice},
		{[][2]int{{1, 3}, {2, 4}, {0, 4}}, api.ErrTwice}, {[][2]int{{1, 3}, {1, 3}, {0, 5}}, api.ErrTwice},
		{[][2]int{{3, 1}}, api.ErrPair}, {[][2]int{{0, 1}}, api.ErrPair}, {[][2]int{{3, 4}}, api.ErrPair}, {[][2]int{{0, 3}}, api.ErrPair},
		{[][2]int{{0, 5}}, api.ErrPair}, {[][2]int{{1, 4}}, api.ErrPair}, {[][2]int{{1, 3}, {4, 2}}, api.ErrPair},
		{[][2]int{{0, 5}, {0, 0}}, api.ErrPair}, {[][2]int{{0, 3}, {1, 3}}, api.ErrPair}, {[][2]int{{1, 3}, {2, 5}, {1, 4}}, api.ErrPair},
	} {
		if err := temple.Check(l, 2, c.pairs); err != c.err {
			t.Errorf("%v: %d, want %d", c.pairs, err, c.err)
		}
		for _, tol := range []int{-1, 1001, math.MinInt, math.MaxInt} {
			if err := temple.Check(l, tol, c.pairs); err != api.ErrArg {
				t.Errorf("%d, %v: %d", tol, c.pairs, err)
			}
		}
	}
	if err := temple.Check(nil, 0, [][2]int{{0, 0}}); err != api.ErrArg {
		t.Errorf("no temples: %d", err)
	}
	if err := temple.Check(l, 2, make([][2]int, 100_000)); err != api.ErrTwice {
		t.Errorf("a long list: %d", err)
	}
}

// P4.5: the greatest difference, also above the greatest tolerance.
func TestWorst(t *testing.T) {
	l := append(sides([]int{1, 104, 2000}, []int{103, 1, 2000}), left(9, 2000, 2), right(10, 5, 2))
	for _, c := range []struct {
		pairs [][2]int
		want  int
	}{
		{nil, 0}, {[][2]int{}, 0}, {[][2]int{{1, 3}}, 1}, {[][2]int{{0, 4}}, 0}, {[][2]int{{0, 3}}, 102}, {[][2]int{{1, 4}}, 103},
		{[][2]int{{0, 5}}, 1999}, {[][2]int{{2, 4}}, 1999}, {[][2]int{{2, 3}, {1, 4}}, 1897}, {[][2]int{{1, 4}, {2, 3}}, 1897},
		{[][2]int{{0, 4}, {1, 3}, {2, 5}}, 1}, {[][2]int{{0, 4}, {6, 7}}, 1995},
	} {
		if n := must[int](t)(temple.Worst(l, c.pairs)); n != c.want {
			t.Errorf("%v: %d", c.pairs, n)
		}
	}
	if n := must[int](t)(temple.Worst(nil, nil)); n != 0 {
		t.Errorf("no temples: %d", n)
	}
}

// P4.5: the errors of Check, but for differences.
func TestWorstErrors(t *testing.T) {
	l := append(sides([]int{1, 2, 2000}, []int{1, 2000}), right(9, 1, 2))
	for _, c := range []struct {
		pairs [][2]int
		err   api.Errno
	}{
		{[][2]int{{-1, 3}}, api.ErrArg}, {[][2]int{{0, 6}}, api.ErrArg}, {[][2]int{{0, 0}, {math.MinInt, 3}}, api.ErrArg}, {[][2]int{{0, 5}, {0, 6}}, api.ErrArg},
		{[][2]int{{0, 0}}, api.ErrTwice}, {[][2]int{{0, 3}, {0, 4}}, api.ErrTwice}, {[][2]int{{0, 4}, {1, 4}}, api.ErrTwice}, {[][2]int{{0, 3}, {3, 0}}, api.ErrTwice},
		{[][2]int{{3, 0}}, api.ErrPair}, {[][2]int{{0, 1}}, api.ErrPair}, {[][2]int{{3, 4}}, api.ErrPair}, {[][2]int{{0, 5}}, api.ErrPair},
		{[][2]int{{0, 3}, {2, 5}, {0, 4}}, api.ErrPair}, {[][2]int{{0, 3}, {0, 4}, {1, 5}}, api.ErrTwice},
	} {
		if r := results(temple.Worst(l, c.pairs)); !isError(r, c.err) {
			t.Errorf("%v: %v, want %d", c.pairs, r, c.err)
		}
	}
}
