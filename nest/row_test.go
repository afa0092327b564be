package nest_test

import (
	"math"
	"math/rand/v2"
	"testing"

	"pantoscope/api"
	"pantoscope/nest"
)

// rowsOf are the places of the terms of P7.4, and how many boxes lie on the board.
func rowsOf(b api.Board, list []api.Part, part int) (l []api.Place, boxes int) {
	left, low, right, top := math.MaxInt, math.MaxInt, math.MinInt, math.MinInt
	for _, c := range list[part].O {
		left, low, right, top = min(left, c.X), min(low, c.Y), max(right, c.X), max(top, c.Y)
	}
	for y := 0; y+top-low <= b.H; y += top - low + b.Gap {
		for x := 0; x+right-left <= b.W; x += right - left + b.Gap {
			p := at(part, x-left, y-low)
			boxes++
			if _, err := checked(b, list, []api.Place{p}); err == api.OK && len(l) < 200 {
				l = append(l, p)
			}
		}
	}
	return l, boxes
}

// P7.4: example 1, and boards on which a box just fits, or just does not.
func TestRows(t *testing.T) {
	b, list := example()
	l, err := nest.Rows(b, list, 0)
	placesAre(t, "example", l, err, []api.Place{at(0, 20, 20), at(0, 70, 20)})
	list = parts(corner(1, 1), xy(15, 5, 45, 5, 45, 25, 15, 25), xy(-5, -9, 0, -9, 0, 1))
	for _, c := range []struct {
		b    api.Board
		part int
		want []api.Place
	}{
		{board(30, 20, 0), 1, []api.Place{at(1, -15, -5)}},
		{board(29, 60, 0), 1, nil},
		{board(90, 19, 0), 1, nil},
		{board(62, 41, 2), 1, []api.Place{at(1, -15, -5), at(1, 17, -5)}},
		{board(61, 42, 2), 1, []api.Place{at(1, -15, -5), at(1, -15, 17)}},
		{board(62, 42, 2), 1, []api.Place{at(1, -15, -5), at(1, 17, -5), at(1, -15, 17), at(1, 17, 17)}},
		{board(62, 42, 2, rect(31, 21, 1, 1)), 1, []api.Place{at(1, -15, -5), at(1, 17, -5), at(1, -15, 17), at(1, 17, 17)}},
		{board(62, 42, 2, rect(32, 19, 1, 1)), 1, []api.Place{at(1, -15, -5), at(1, -15, 17), at(1, 17, 17)}},
		{board(62, 42, 2, rect(29, 19, 4, 4)), 1, nil},
		// The fault is in the box of the first part, but beside its long side.
		{board(10, 10, 0, rect(0, 2, 1, 8)), 2, []api.Place{at(2, 5, 9), at(2, 10, 9)}},
		{board(10, 10, 0, rect(0, 1, 1, 1)), 2, []api.Place{at(2, 10, 9)}},
	} {
		l, err := nest.Rows(c.b, list, c.part)
		placesAre(t, "Rows", l, err, c.want)
	}
}

// P7.4: at most 10000 boxes lie on the board, and the first 200 places are returned.
func TestRowsOfMany(t *testing.T) {
	list := parts(box(20, 20), xy(0, 0, 1, 0, 1, 1, 0, 1), xy(0, 0, 6, 0, 6, 1, 0, 1))
	for _, c := range []struct {
		b    api.Board
		part int
		n    int
		err  api.Errno
	}{
		{board(100, 100, 0), 1, 200, api.OK},
		{board(101, 100, 0), 1, 0, api.ErrLimit},
		{board(100, 101, 0), 1, 0, api.ErrLimit},
		{board(299, 298, 2), 1, 200, api.OK},
		{board(10000, 1, 0), 1, 200, api.OK},
		{board(1, 10001, 0), 1, 0, api.ErrLimit},
		{board(60000, 60000, 2000), 1, 200, api.OK},
		{board(60000, 60000, 0), 1, 0, api.ErrLimit},
		{board(199, 1, 0), 1, 199, api.OK},
		{board(201, 1, 0), 1, 200, api.OK},
		{board(100, 100, 0, rect(0, 0, 100, 99)), 1, 100, api.OK},
		{board(100, 101, 0, rect(0, 0, 100, 100)), 1, 0, api.ErrLimit},
		{board(60000, 1, 0), 2, 200, api.OK},
		{board(60006, 1, 0), 2, 0, api.ErrBoard},
		{board(60000, 60000, 560), 0, 200, api.OK},
		{board(60000, 60000, 559), 0, 0, api.ErrLimit},
	} {
		l, err := nest.Rows(c.b, list, c.part)
		if len(l) != c.n || err != c.err {
			t.Errorf("Rows(%v, %d): %d places, %d", c.b, c.part, len(l), err)
		}
	}
	l := must[[]api.Place](t)(nest.Rows(board(150, 2, 0, rect(0, 0, 3, 1)), list, 1))
	if len(l) != 200 || l[0] != at(1, 3, 0) || l[146] != at(1, 149, 0) || l[147] != at(1, 0, 1) || l[199] != at(1, 52, 1) {
		t.Errorf("%v", l)
	}
}

// P7.4: Rows is what the terms say.
func TestRowsByTheTerms(t *testing.T) {
	r := rand.New(rand.NewPCG(7, 8))
	some, limits := 0, 0
	for range 600 {
		most := []int{8, 60, 400}[r.IntN(3)]
		b, list := randomBoard(r, most), randomParts(r, []int{most, 1}[r.IntN(2)])
		part := r.IntN(len(list))
		if r.IntN(2) == 0 {
			b.Gap = 0
		}
		want, boxes := rowsOf(b, list, part)
		l, err := nest.Rows(b, list, part)
		if boxes > 10000 {
			limits++
			if len(l) != 0 || err != api.ErrLimit {
				t.Fatalf("%v, %v: %d boxes, but %v, %d", b, list, boxes, l, err)
			}
			continue
		}
		placesAre(t, "Rows", l, err, want)
		if len(want) > 1 && len(want) < boxes {
			some++
		}
	}
	if some < 150 || limits < 3 {
		t.Errorf("only %d are beside faults, and %d too many", some, limits)
	}
}

// P7.4: the bound by areas.
func TestBound(t *testing.T) {
	b, list := example()
	list = append(list, api.Part{O: corner(3, 1)}, api.Part{O: box(50, 30)}, api.Part{O: box(51, 30)})
	for part, want := range []int{3, 4000, 1, 0} {
		if n, e := nest.Bound(b, list, part); n != want || e != api.OK {
			t.Errorf("Bound of part %d: %d, %d", part, n, e)
		}
	}
	b.Faults = []api.Rect{rect(0, 0, 100, 60)}
	if n, e := nest.Bound(b, list, 0); n != 3 || e != api.OK {
		t.Errorf("Bound with a fault: %d, %d", n, e)
	}
	if n, e := nest.Bound(board(60000, 60000, 0), parts(corner(1, 1)), 0); n != 7_200_000_000 || e != api.OK {
		t.Errorf("Bound of the largest board: %d, %d", n, e)
	}
}

// P7.4: ErrArg without such a part, ahead of ErrLimit.
func TestRowsOfNoPart(t *testing.T) {
	list := parts(corner(1, 1), corner(1, 2))
	for _, n := range []int{-1, 2, math.MinInt, math.MaxInt} {
		for _, b := range []api.Board{board(10, 10, 0), board(60000, 60000, 0)} {
			for name, r := range map[string][]any{"Rows": results(nest.Rows(b, list, n)), "Bound": results(nest.Bound(b, list, n))} {
				if !isError(r, api.ErrArg) {
					t.Errorf("%s of part %d: %v", name, n, r)
				}
			}
		}
	}
	if r := results(nest.Rows(board(10, 10, 0), nil, 0)); !isError(r, api.ErrArg) {
		t.Errorf("without parts: %v", r)
	}
}
