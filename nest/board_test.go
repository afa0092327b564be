package nest_test

import (
	"math"
	"slices"
	"testing"

	"pantoscope/api"
	"pantoscope/nest"
)

// P7.2: the boards that are just valid, and those that are not.
func TestValidBoards(t *testing.T) {
	for _, b := range []api.Board{
		board(1, 1, 0), board(60000, 60000, 2000), board(1, 60000, 1), board(60000, 1, 1),
		board(10, 30, 1, rect(0, 0, 10, 30)), board(10, 30, 1, rect(9, 29, 1, 1)), board(10, 30, 1, rect(0, 29, 10, 1), rect(9, 0, 1, 30)),
		board(60000, 60000, 0, rect(0, 0, 60000, 60000)), board(60000, 60000, 0, rect(59999, 0, 1, 60000)),
		board(10, 10, 0, slices.Repeat([]api.Rect{rect(1, 1, 1, 1)}, 10)...),
	} {
		if !nest.Valid(b, nil) || !nest.Valid(b, parts(corner(1, 1))) {
			t.Errorf("%v is not valid", b)
		}
	}
	for _, b := range badBoards() {
		if nest.Valid(b, nil) || nest.Valid(b, parts(corner(1, 1))) {
			t.Errorf("%v is valid", b)
		}
	}
}

// P7.2: the parts that are just valid, and those that are not.
func TestValidParts(t *testing.T) {
	m := api.MaxPlace
	for _, list := range [][]api.Part{
		nil, {}, parts(corner(1, 1)), parts(box(m, m), many(64), corner(3, 4)), {turning(box(m, m))}, parts(moved(corner(1, 1), m-1, m-1)),
		parts(slices.Repeat([][]api.XY{corner(1, 1)}, 60)...),
	} {
		if !nest.Valid(board(1, 1, 0), list) {
			t.Errorf("%v is not valid", list)
		}
	}
	for _, list := range badParts() {
		if nest.Valid(board(60000, 60000, 0), list) {
			t.Errorf("%v is valid", list)
		}
	}
}

// P7.2: the corners of a part at a place are those of its canonical form, turned before it is moved.
func TestLying(t *testing.T) {
	list := parts(xy(4, 1, 2, 5, 0, 0, 3, 0), box(20, 20))
	for _, c := range []struct {
		p    api.Place
		want []api.XY
	}{
		{at(0, 0, 0), xy(0, 0, 3, 0, 4, 1, 2, 5)},
		{at(0, 10, 100), xy(10, 100, 13, 100, 14, 101, 12, 105)},
		{turnedAt(0, 0, 0), xy(-2, -5, 0, 0, -3, 0, -4, -1)},
		{turnedAt(0, 10, 100), xy(8, 95, 10, 100, 7, 100, 6, 99)},
		{at(1, -30, 7), xy(-50, -13, -10, -13, -10, 27, -50, 27)},
		{at(1, 120000, -120000), moved(box(20, 20), 120000, -120000)},
		{turnedAt(1, -120000, 120000), moved(box(20, 20), -120000, 120000)},
	} {
		if got, e := nest.Lying(list, c.p); !slices.Equal(got, c.want) || e != api.OK {
			t.Errorf("Lying(%v): %v, %d", c.p, got, e)
		}
	}
}

// P7.2: ErrArg for a place that names no part, or that is too far away.
func TestLyingNowhere(t *testing.T) {
	for _, n := range []int{-1, 2, math.MinInt, math.MaxInt} {
		if r := results(nest.Lying(parts(corner(1, 1), corner(2, 2)), at(n, 0, 0))); !isError(r, api.ErrArg) {
			t.Errorf("part %d: %v", n, r)
		}
	}
	for _, n := range []int{-120001, 120001, math.MinInt, math.MaxInt} {
		for _, p := range []api.Place{at(0, n, 0), at(0, 0, n), turnedAt(0, n, 1), turnedAt(0, 1, n)} {
			if r := results(nest.Lying(parts(corner(1, 1)), p)); !isError(r, api.ErrArg) {
				t.Errorf("%v: %v", p, r)
			}
		}
	}
	if r := results(nest.Lying(nil, at(0, 0, 0))); !isError(r, api.ErrArg) {
		t.Errorf("without parts: %v", r)
	}
}
