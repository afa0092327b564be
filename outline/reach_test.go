package outline_test

import (
	"math"
	"math/rand/v2"
	"testing"

	"pantoscope/api"
	"pantoscope/outline"
)

// P1.5
func TestReach(t *testing.T) {
	m := api.MaxPlace
	for _, c := range []struct {
		o    []api.XY
		u, v int
		want int
		err  api.Errno
	}{
		{triangle(), 2, 3, 3, api.OK},
		{triangle(), 3, 2, 3, api.OK},
		{triangle(), -1, -1, 0, api.OK},
		{triangle(), 0, 1, 1, api.OK},
		{triangle(), 1, 0, 1, api.OK},
		{xy(-9, -9, -8, -9, -9, -8), 1, 2, -25, api.OK},
		{box(m, m), 10000, 10000, 100000000, api.OK},
		{box(m, m), -10000, -10000, 100000000, api.OK},
		{triangle(), 0, 0, 0, api.ErrArg},
		{triangle(), 10001, 0, 0, api.ErrArg},
		{triangle(), -10001, 0, 0, api.ErrArg},
		{triangle(), 0, 10001, 0, api.ErrArg},
		{triangle(), 0, -10001, 0, api.ErrArg},
		{triangle(), math.MinInt, math.MaxInt, 0, api.ErrArg},
	} {
		if got, e := outline.Reach(c.o, c.u, c.v); got != c.want || e != c.err {
			t.Errorf("Reach(%v, %d, %d): %d, %d", c.o, c.u, c.v, got, e)
		}
	}
}

// P1.5
func TestHolds(t *testing.T) {
	m := api.MaxPlace
	for _, c := range []struct {
		x, y int
		want bool
		err  api.Errno
	}{
		{0, 0, true, api.OK},
		{-2, -1, true, api.OK},
		{2, 1, true, api.OK},
		{2, 0, true, api.OK},
		{-2, 0, true, api.OK},
		{0, 1, true, api.OK},
		{1, -1, true, api.OK},
		{3, 0, false, api.OK},
		{-3, 0, false, api.OK},
		{0, 2, false, api.OK},
		{0, -2, false, api.OK},
		{3, 1, false, api.OK},
		{4 * m, 0, false, api.OK},
		{0, -4 * m, false, api.OK},
		{4*m + 1, 0, false, api.ErrArg},
		{-4*m - 1, 0, false, api.ErrArg},
		{0, 4*m + 1, false, api.ErrArg},
		{0, -4*m - 1, false, api.ErrArg},
		{math.MaxInt, math.MinInt, false, api.ErrArg},
	} {
		if got, e := outline.Holds(square(), api.XY{X: c.x, Y: c.y}); got != c.want || e != c.err {
			t.Errorf("Holds %d, %d: %v, %d", c.x, c.y, got, e)
		}
	}
	slanted := xy(0, 0, 6, 2, 2, 6)
	for p, want := range map[api.XY]bool{{X: 3, Y: 1}: true, {X: 4, Y: 1}: false, {X: 4, Y: 4}: true, {X: 5, Y: 4}: false, {X: 1, Y: 3}: true, {X: 1, Y: 4}: false} {
		if got, e := outline.Holds(slanted, p); got != want || e != api.OK {
			t.Errorf("Holds %v: %v, %d", p, got, e)
		}
	}
}

// P1.5
func TestWithin(t *testing.T) {
	for _, c := range []struct {
		o, p []api.XY
		want bool
	}{
		{square(), box(4, 2), true},
		{box(4, 2), square(), false},
		{square(), box(2, 1), true},
		{square(), box(1, 1), false},
		{shifted(square(), 1, 0), box(3, 1), true},
		{shifted(square(), 2, 0), box(3, 1), false},
		{triangle(), square(), true},
		{shifted(triangle(), 100, 0), square(), false},
		{xy(0, -5, 1, 0, 0, 1), square(), false},
		{xy(0, 0, 1, 0, 0, 5), square(), false},
	} {
		if got, e := outline.Within(c.o, c.p); got != c.want || e != api.OK {
			t.Errorf("Within(%v, %v): %v, %d", c.o, c.p, got, e)
		}
	}
}

// P1.6
func TestSeat(t *testing.T) {
	groove := xy(0, 0, 40, 0, 0, 30) // its slanted side is 50 long
	for _, c := range []struct {
		name         string
		lens, groove []api.XY
		play         int
		want         bool
		err          api.Errno
	}{
		{"itself", square(), square(), 0, true, api.OK},
		{"itself begun elsewhere", square(), rolled(square(), 1), 0, true, api.OK},
		{"too narrow", square(), box(4, 2), 1, false, api.OK},
		{"just wide enough", square(), box(4, 2), 2, true, api.OK},
		{"gap 12 with 11", xy(0, 0, 20, 0, 0, 15), groove, 11, false, api.OK},
		{"gap 12 with 12", xy(0, 0, 20, 0, 0, 15), groove, 12, true, api.OK},
		{"gap 12.6 with 12", xy(0, 0, 19, 0, 0, 14), groove, 12, false, api.OK},
		{"gap 12.6 with 13", xy(0, 0, 19, 0, 0, 14), groove, 13, true, api.OK},
		{"gap 0.2 without play", xy(0, 0, 39, 0, 0, 29), groove, 0, false, api.OK},
		{"gap below", shifted(square(), 0, 3), xy(-2, -1, 2, -1, 2, 4, -2, 4), 2, false, api.OK},
		{"gap below with play", shifted(square(), 0, 3), xy(-2, -1, 2, -1, 2, 4, -2, 4), 3, true, api.OK},
		{"gap on the left", shifted(square(), 5, 0), xy(-2, -1, 7, -1, 7, 1, -2, 1), 4, false, api.OK},
		{"gap on the left with play", shifted(square(), 5, 0), xy(-2, -1, 7, -1, 7, 1, -2, 1), 5, true, api.OK},
		{"beyond the groove", shifted(square(), 1, 0), square(), 1000, false, api.OK},
		{"larger than the groove", box(4, 2), square(), 1000, false, api.OK},
		{"greatest play", box(1, 1), box(1001, 1001), 1000, true, api.OK},
		{"more than the greatest play", box(1, 1), box(1002, 1001), 1000, false, api.OK},
		{"play below 0", square(), square(), -1, false, api.ErrArg},
		{"play above the limit", square(), square(), 1001, false, api.ErrArg},
		{"least play", square(), square(), math.MinInt, false, api.ErrArg},
		{"most play", square(), square(), math.MaxInt, false, api.ErrArg},
		{"greatest gap", shifted(triangle(), -5000, -5000), xy(-5000, -5000, 5000, -5000, 5000, 5000), 1000, false, api.OK},
	} {
		if got, e := outline.Seat(c.lens, c.groove, c.play); got != c.want || e != c.err {
			t.Errorf("%s: %v, %d", c.name, got, e)
		}
	}
}

// P1.12
func TestSeats(t *testing.T) {
	r := rand.New(rand.NewPCG(5, 6))
	sat := 0
	for i := range 300 {
		places := randomPlaces(r, 12, []int{5, 30, 200, 1000}[i%4])
		var nested [3][]api.XY
		for k, n := range []int{4, 8, 12} {
			nested[k], _ = outline.Hull(places[:n])
		}
		if nested[0] == nil {
			continue
		}
		if !must[bool](t)(outline.Within(nested[0], nested[1])) || !must[bool](t)(outline.Within(nested[1], nested[2])) || !must[bool](t)(outline.Within(nested[0], nested[2])) {
			t.Fatalf("not within each other: %v", nested)
		}
		if !must[bool](t)(outline.Within(nested[2], nested[2])) || !must[bool](t)(outline.Seat(nested[2], nested[2], 0)) {
			t.Fatalf("not within itself: %v", nested[2])
		}
		before := false
		for play := 0; play <= api.MaxPlay; play += 1 + play/10 {
			now := must[bool](t)(outline.Seat(nested[0], nested[2], play))
			if before && !now {
				t.Fatalf("sits with less than %d: %v", play, nested)
			}
			before = now
		}
		if before {
			sat++
		}
	}
	if sat == 0 {
		t.Error("no lens sat")
	}
}

// P1.12: three outlines of which no two need be within each other.
func TestWithinIsTransitive(t *testing.T) {
	list := outlines(t, 120)
	list = append(list, square(), triangle(), box(1, 1), box(4, 2), box(api.MaxPlace, api.MaxPlace))
	in := make([][]bool, len(list))
	for i, o := range list {
		for _, p := range list {
			in[i] = append(in[i], must[bool](t)(outline.Within(o, p)))
		}
	}
	for i := range list {
		for j := range list {
			for k := range list {
				if in[i][j] && in[j][k] && !in[i][k] {
					t.Fatalf("%v, %v, %v", list[i], list[j], list[k])
				}
			}
		}
	}
}
