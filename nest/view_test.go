package nest_test

import (
	"math"
	"math/rand/v2"
	"slices"
	"testing"

	"pantoscope/api"
	"pantoscope/nest"
)

// P7.6: the least rectangle around a layout, which need not be right.
func TestExtent(t *testing.T) {
	list := parts(box(20, 20), corner(30, 40), xy(-5, -9, 0, -9, 0, 1))
	for _, c := range []struct {
		l    []api.Place
		want api.Rect
	}{
		{nil, api.Rect{}},
		{[]api.Place{}, api.Rect{}},
		{[]api.Place{at(0, 0, 0)}, rect(-20, -20, 40, 40)},
		{[]api.Place{at(0, 100, 30)}, rect(80, 10, 40, 40)},
		{[]api.Place{turnedAt(1, 0, 0)}, rect(-30, -40, 30, 40)},
		{[]api.Place{at(2, 5, 9), at(2, 5, 9)}, rect(0, 0, 5, 10)},
		{[]api.Place{at(0, 100, 30), at(1, 101, 11)}, rect(80, 10, 51, 41)},
		{[]api.Place{at(0, 120000, -120000), at(0, -120000, 120000)}, rect(-120020, -120020, 240040, 240040)},
		{append(repeated(199, at(0, 20, 20)), at(0, 60, 20)), rect(0, 0, 80, 40)},
	} {
		if got, e := nest.Extent(list, c.l); got != c.want || e != api.OK {
			t.Errorf("Extent(%v): %v, %d", c.l, got, e)
		}
	}
	if got, e := nest.Extent(nil, nil); got != (api.Rect{}) || e != api.OK {
		t.Errorf("Extent of nothing: %v, %d", got, e)
	}
}

// P7.6: ErrBoard for the parts, then ErrArg for the layout.
func TestExtentNowhere(t *testing.T) {
	list := parts(corner(1, 1))
	var wrong [][]api.Place
	for _, n := range []int{-1, 1, math.MinInt, math.MaxInt} {
		wrong = append(wrong, []api.Place{at(n, 0, 0)}, []api.Place{at(0, 0, 0), at(n, 0, 0)})
	}
	for _, n := range []int{-120001, 120001, math.MinInt, math.MaxInt} {
		wrong = append(wrong, []api.Place{at(0, n, 0)}, []api.Place{at(0, 0, 0), at(0, 0, n)})
	}
	for _, l := range append(wrong, repeated(201, at(0, 0, 0)), make([]api.Place, 100000)) {
		if r := results(nest.Extent(list, l)); !isError(r, api.ErrArg) {
			t.Errorf("Extent of %d places: %v", len(l), r)
		}
		for _, bad := range badParts() {
			if r := results(nest.Extent(bad, l)); !isError(r, api.ErrBoard) {
				t.Errorf("Extent of %v: %v", bad, r)
			}
		}
	}
}

// P7.6: faults, parts and places as they are seen in a mirror.
func TestMirror(t *testing.T) {
	b := board(200, 100, 10, rect(100, 0, 50, 40), rect(190, 1, 10, 2))
	list := []api.Part{{O: box(20, 20)}, turning(xy(30, 0, 0, 40, 0, 0))}
	l := []api.Place{at(0, 20, 20), at(1, 50, 50), turnedAt(1, 200, 100)}
	m, mirrored, places, err := nest.Mirror(b, list, l)
	if err != api.OK || !sameBoard(m, board(200, 100, 10, rect(50, 0, 50, 40), rect(0, 1, 10, 2))) {
		t.Errorf("board %v, %d", m, err)
	}
	if !sameParts(mirrored, []api.Part{{O: box(20, 20)}, turning(xy(-30, 0, 0, 0, 0, 40))}) {
		t.Errorf("parts %v", mirrored)
	}
	placesAre(t, "mirrored", places, err, []api.Place{at(0, 180, 20), at(1, 150, 50), turnedAt(1, 0, 100)})
	m, mirrored, places, err = nest.Mirror(board(1, 1, 0), nil, nil)
	if err != api.OK || !sameBoard(m, board(1, 1, 0)) || len(mirrored) != 0 || len(places) != 0 {
		t.Errorf("%v, %v, %v, %d", m, mirrored, places, err)
	}
}

// P7.6: the errors of Mirror are those of Check.
func TestErrorsOfMirror(t *testing.T) {
	b, list, layouts := wrongLayouts()
	for _, c := range layouts {
		if r := results(nest.Mirror(b, list, c.l)); !isError(r, c.err) {
			t.Errorf("%v: %v", c.l, r)
		}
	}
}

// inMirror are the corners of a piece as they are seen in a mirror, in some order.
func inMirror(b api.Board, corners []api.XY) []api.XY {
	var list []api.XY
	for _, c := range corners {
		list = append(list, api.XY{X: b.W - c.X, Y: c.Y})
	}
	return sorted(list)
}

func sorted(corners []api.XY) []api.XY {
	return slices.SortedFunc(slices.Values(corners), func(a, b api.XY) int { return 1_000_000*(a.X-b.X) + a.Y - b.Y })
}

// P7.6: each piece and each fault covers what it covers in the mirror.
func TestMirrorByItsCorners(t *testing.T) {
	r := rand.New(rand.NewPCG(11, 12))
	for range 500 {
		b, list := randomBoard(r, 100), randomParts(r, 100)
		l := randomRight(r, b, list, 10)
		m, mirrored, places, err := nest.Mirror(b, list, l)
		if err != api.OK || len(m.Faults) != len(b.Faults) || len(places) != len(l) {
			t.Fatalf("%v, %v, %v: %v, %v, %d", b, list, l, m, places, err)
		}
		for i, f := range b.Faults {
			if !slices.Equal(inMirror(b, cornersOf(f)), sorted(cornersOf(m.Faults[i]))) {
				t.Fatalf("%v: %v", f, m.Faults[i])
			}
		}
		for i, p := range l {
			if !slices.Equal(inMirror(b, cornersAt(list, p)), sorted(cornersAt(mirrored, places[i]))) {
				t.Fatalf("%v: %v", p, places[i])
			}
		}
	}
}
