package nest_test

import (
	"math"
	"math/rand/v2"
	"testing"

	"pantoscope/api"
	"pantoscope/nest"
	"pantoscope/outline"
)

// P7.2: two outlines that are exactly so far apart, and not farther; -1 if they overlap.
func TestApart(t *testing.T) {
	m := api.MaxPlace
	slope := xy(40, 0, 40, 30, 0, 30) // beside corner(40, 30), with which it shares a side
	for _, c := range []struct {
		o, p []api.XY
		most int
	}{
		{box(20, 20), moved(box(20, 20), 40, 0), 0},
		{box(20, 20), moved(box(20, 20), 40, 40), 0},
		{box(20, 20), moved(box(20, 20), 39, 39), -1},
		{box(20, 20), moved(box(20, 20), 49, 45), 9},
		{box(20, 20), moved(box(20, 20), 45, -49), 9},
		{box(20, 20), moved(box(20, 20), -50, 0), 10},
		{box(20, 20), moved(box(20, 20), 0, -53), 13},
		{box(20, 20), box(20, 20), -1},
		{box(20, 20), box(1, 1), -1},
		{corner(40, 30), slope, 0},
		{corner(40, 30), moved(slope, 3, 4), 5},
		{corner(40, 30), moved(slope, 6, 8), 10},
		{corner(40, 30), moved(slope, 6, 7), 9},
		{corner(40, 30), moved(slope, -3, 4), 1},
		{corner(40, 30), moved(slope, -3, 2), -1},
		// Behind its square corner, the triangle is (4 * 6 + 3 * 6) / 5 = 8.4 away in the direction of its long side, but 6 along the axes.
		{corner(30, 40), xy(-10, -10, -6, -10, -6, -6, -10, -6), 8},
		{box(1, 1), moved(box(1, 1), 0, 2002), 2000},
		{moved(corner(2, 2), m-2, m-2), moved(corner(2, 2), -m, -m), 2000},
	} {
		for _, gap := range []int{0, max(c.most, 0), c.most + 1, 2000} {
			if gap > 2000 {
				continue
			}
			for _, swapped := range []bool{false, true} {
				o, p := c.o, c.p
				if swapped {
					o, p = p, o
				}
				if is, e := nest.Apart(o, p, gap); is != (gap <= c.most) || e != api.OK {
					t.Errorf("Apart(%v, %v, %d): %v, %d", o, p, gap, is, e)
				}
			}
		}
	}
}

// P7.2: Apart is what the terms say, in directions across the sides of either outline and on both sides of it.
func TestApartByTheTerms(t *testing.T) {
	r := rand.New(rand.NewPCG(1, 2))
	count := map[bool]int{}
	for range 20000 {
		most := []int{3, 10, 100}[r.IntN(3)]
		o, p := randomOutline(r, most), moved(randomOutline(r, most), r.IntN(4*most)-2*most, r.IntN(4*most)-2*most)
		gap := r.IntN(1 + r.IntN(most))
		want := isApart(o, p, gap)
		if is, e := nest.Apart(o, p, gap); is != want || e != api.OK {
			t.Fatalf("Apart(%v, %v, %d): %v, %d", o, p, gap, is, e)
		}
		count[want]++
	}
	if min(count[true], count[false]) < 4000 {
		t.Errorf("%v", count)
	}
}

// P7.2: large outlines, too; what is formed on the way is exact.
func TestApartOfLargeOnes(t *testing.T) {
	r := rand.New(rand.NewPCG(3, 4))
	for range 3000 {
		o := must[[]api.XY](t)(outline.Hull([]api.XY{{X: -5000, Y: -r.IntN(5000)}, {X: r.IntN(3) - 100, Y: -5000}, {X: -r.IntN(50), Y: r.IntN(4000)}}))
		p := must[[]api.XY](t)(outline.Hull([]api.XY{{X: 5000, Y: r.IntN(5000)}, {X: 500 + r.IntN(300), Y: 5000}, {X: 100 + r.IntN(1900), Y: -r.IntN(4000)}}))
		low, high := -1, 2001
		for high-low > 1 {
			gap := (low + high) / 2
			if must[bool](t)(nest.Apart(o, p, gap)) {
				low = gap
			} else {
				high = gap
			}
		}
		if low >= 0 && !isApart(o, p, low) || high <= 2000 && isApart(o, p, high) {
			t.Fatalf("%v and %v: %d apart, not %d", o, p, low, high)
		}
	}
}

// P7.2: ErrOutline goes ahead of ErrArg.
func TestApartOfNothing(t *testing.T) {
	for _, gap := range []int{-1, 2001, math.MinInt, math.MaxInt} {
		if r := results(nest.Apart(corner(1, 1), corner(2, 2), gap)); !isError(r, api.ErrArg) {
			t.Errorf("gap %d: %v", gap, r)
		}
	}
	for _, o := range badOutlines() {
		for _, gap := range []int{0, 2000, -1, 2001} {
			for _, r := range [][]any{results(nest.Apart(o, corner(1, 1), gap)), results(nest.Apart(corner(1, 1), o, gap)), results(nest.Apart(o, o, gap))} {
				if !isError(r, api.ErrOutline) {
					t.Errorf("%v, %d: %v", o, gap, r)
				}
			}
		}
	}
}
