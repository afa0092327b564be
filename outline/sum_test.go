package outline_test

import (
	"math"
	"math/rand/v2"
	"slices"
	"testing"

	"pantoscope/api"
	"pantoscope/outline"
)

// P1.7
func TestSum(t *testing.T) {
	m := api.MaxPlace
	for _, c := range []struct {
		name string
		o, p []api.XY
		want []api.XY
		err  api.Errno
	}{
		{"square and triangle", square(), triangle(), xy(-2, -1, 3, -1, 3, 1, 2, 2, -2, 2), api.OK},
		{"begun elsewhere", rolled(square(), 2), rolled(triangle(), 1), xy(-2, -1, 3, -1, 3, 1, 2, 2, -2, 2), api.OK},
		{"square twice", square(), square(), box(4, 2), api.OK},
		{"triangle and the turned one", triangle(), xy(0, 0, -1, 0, 0, -1), xy(0, -1, 1, -1, 1, 0, 0, 1, -1, 1, -1, 0), api.OK},
		{"up to the limit", box(m-1, m-1), box(1, 1), box(m, m), api.OK},
		{"X beyond the limit", box(m-1, 1), box(2, 1), nil, api.ErrLimit},
		{"Y beyond the limit", box(1, m-1), box(1, 2), nil, api.ErrLimit},
		{"X alone beyond the limit", xy(m-3, 0, m, 0, m-3, 1), triangle(), nil, api.ErrLimit},
		{"X below the limit", xy(-m, 0, -m+1, 0, -m, 1), xy(-1, 0, 1, 0, 0, 1), nil, api.ErrLimit},
		{"Y below the limit", xy(0, -m, 1, -m, 0, -m+1), xy(0, -1, 1, 0, 0, 1), nil, api.ErrLimit},
		{"Y alone beyond the limit", xy(0, m-3, 1, m-3, 0, m), triangle(), nil, api.ErrLimit},
	} {
		if got, e := outline.Sum(c.o, c.p); !slices.Equal(got, c.want) || e != c.err {
			t.Errorf("%s: %v, %d", c.name, got, e)
		}
	}
}

// P1.7
func TestSumOfManyCorners(t *testing.T) {
	half := many(64) // its last side is in none of the other ones
	if s, e := outline.Sum(half, half); len(s) != 64 || e != api.OK {
		t.Errorf("twice the same 64 sides: %d corners, %d", len(s), e)
	}
	if s, e := outline.Sum(half, xy(0, 0, 100, -1, 100, 0)); s != nil || e != api.ErrLimit {
		t.Errorf("more than 64 sides: %d corners, %d", len(s), e)
	}
	for n := 55; n <= 64; n++ {
		p := xy(0, 0, 101, -1, 100, 100)
		got, e := outline.Sum(many(n), p)
		sides := n + 3
		if sides <= 64 && (len(got) != sides || e != api.OK) || sides > 64 && (got != nil || e != api.ErrLimit) {
			t.Errorf("%d sides: %d corners, %d", sides, len(got), e)
		}
	}
}

// P1.7, P1.11: an outline is given by its reaches in the directions of its own sides and of the sides of its parts.
func TestReaches(t *testing.T) {
	list := outlines(t, 60)
	sums := 0
	for _, o := range list {
		for _, p := range list {
			s, e := outline.Sum(o, p)
			back, f := outline.Sum(p, o)
			if !slices.Equal(s, back) || e != f {
				t.Fatalf("Sum of %v and %v is not commutative", o, p)
			}
			if e == api.ErrLimit {
				beyondLimit(t, o, p)
				continue
			}
			sums++
			sumHasReaches(t, o, p, s)
		}
	}
	if sums < 500 {
		t.Errorf("%d sums", sums)
	}
}

func sumHasReaches(t *testing.T, o, p, s []api.XY) {
	t.Helper()
	if !outline.Valid(s) || !slices.Equal(s, must[[]api.XY](t)(outline.Canonical(s))) {
		t.Fatalf("Sum of %v and %v is not in canonical form: %v", o, p, s)
	}
	for _, q := range [][]api.XY{o, p, s} {
		for i, a := range q {
			b := q[(i+1)%len(q)]
			u, v := b.Y-a.Y, a.X-b.X
			got := must[int](t)(outline.Reach(s, u, v))
			if want := must[int](t)(outline.Reach(o, u, v)) + must[int](t)(outline.Reach(p, u, v)); got != want || got != reachOf(s, u, v) {
				t.Fatalf("reach of the sum of %v and %v in %d, %d: %d", o, p, u, v, got)
			}
		}
	}
	if must[int](t)(outline.Area2(s)) < must[int](t)(outline.Area2(o))+must[int](t)(outline.Area2(p)) {
		t.Fatalf("area of the sum of %v and %v", o, p)
	}
}

func beyondLimit(t *testing.T, o, p []api.XY) {
	t.Helper()
	for _, d := range xy(1, 0, -1, 0, 0, 1, 0, -1) {
		if reachOf(o, d.X, d.Y)+reachOf(p, d.X, d.Y) > api.MaxPlace {
			return
		}
	}
	t.Fatalf("Sum of %v and %v: ErrLimit", o, p)
}

// P1.7
func TestHull(t *testing.T) {
	m := api.MaxPlace
	repeated := func(n int, p api.XY, more ...api.XY) []api.XY { return append(slices.Repeat([]api.XY{p}, n), more...) }
	for _, c := range []struct {
		name   string
		places []api.XY
		want   []api.XY
		err    api.Errno
	}{
		{"places on sides and inside", xy(0, 0, 2, 0, 1, 0, 0, 2, 1, 1, 0, 0), xy(0, 0, 2, 0, 0, 2), api.OK},
		{"a square and its middles", xy(0, 0, 1, 1, 2, 2, 0, 2, 2, 0, 1, 0, 0, 1, 1, 2, 2, 1), xy(0, 0, 2, 0, 2, 2, 0, 2), api.OK},
		{"clockwise", xy(0, 0, 0, 1, 1, 0), triangle(), api.OK},
		{"the whole range", append(box(m, m), api.XY{}), box(m, m), api.OK},
		{"nil", nil, nil, api.ErrArg},
		{"empty", []api.XY{}, nil, api.ErrArg},
		{"one place", xy(1, 1), nil, api.ErrArg},
		{"one place often", repeated(5, api.XY{X: 1}), nil, api.ErrArg},
		{"two places", xy(1, 1, 2, 1), nil, api.ErrArg},
		{"two places, one of them twice", xy(1, 1, 2, 1, 1, 1), nil, api.ErrArg},
		{"a level line", xy(0, 0, 1, 0, 2, 0), nil, api.ErrArg},
		{"an upright line", xy(0, 0, 0, 5, 0, 2, 0, 1), nil, api.ErrArg},
		{"a slanted line", xy(3, -3, 0, 0, 1, -1, -4, 4), nil, api.ErrArg},
		{"X too great", append(square(), api.XY{X: m + 1}), nil, api.ErrArg},
		{"X too small", append(square(), api.XY{X: -m - 1}), nil, api.ErrArg},
		{"Y too great", append(square(), api.XY{Y: m + 1}), nil, api.ErrArg},
		{"Y too small", append(square(), api.XY{Y: -m - 1}), nil, api.ErrArg},
		{"huge", xy(math.MaxInt, math.MinInt, math.MinInt, 0, 0, math.MaxInt), nil, api.ErrArg},
		{"200 places", repeated(197, api.XY{}, triangle()...), triangle(), api.OK},
		{"201 places", repeated(198, api.XY{}, triangle()...), nil, api.ErrLimit},
		{"201 places, one out of range", repeated(200, api.XY{}, api.XY{X: m + 1}), nil, api.ErrLimit},
		{"201 places on a line", repeated(201, api.XY{}), nil, api.ErrLimit},
		{"64 corners", many(64), many(64), api.OK},
		{"65 corners", many(65), nil, api.ErrLimit},
		{"80 corners, a place out of range", append(many(80), api.XY{X: m + 1}), nil, api.ErrArg},
	} {
		if got, e := outline.Hull(c.places); !slices.Equal(got, c.want) || e != c.err {
			t.Errorf("%s: %v, %d", c.name, got, e)
		}
	}
}

// P1.7, P1.13: a valid outline that holds all places and has its corners among them is their hull.
func TestHulls(t *testing.T) {
	r := rand.New(rand.NewPCG(7, 8))
	for i := range 2000 {
		places := randomPlaces(r, 1+r.IntN(25), []int{1, 2, 5, 40, api.MaxPlace}[i%5])
		hull, e := outline.Hull(places)
		if e != api.OK {
			if e != api.ErrArg || !onALine(places) {
				t.Fatalf("Hull(%v): %d", places, e)
			}
			continue
		}
		if !outline.Valid(hull) || !slices.Equal(hull, must[[]api.XY](t)(outline.Canonical(hull))) {
			t.Fatalf("Hull(%v) is not in canonical form: %v", places, hull)
		}
		for _, p := range places {
			if !must[bool](t)(outline.Holds(hull, p)) {
				t.Fatalf("Hull(%v) does not hold %v: %v", places, p, hull)
			}
		}
		for _, p := range hull {
			if !slices.Contains(places, p) {
				t.Fatalf("Hull(%v) has the corner %v", places, p)
			}
		}
	}
	for _, o := range outlines(t, 200) {
		if got, e := outline.Hull(o); !slices.Equal(got, must[[]api.XY](t)(outline.Canonical(o))) || e != api.OK {
			t.Fatalf("Hull of the corners of %v: %v, %d", o, got, e)
		}
	}
}

func onALine(places []api.XY) bool {
	for _, a := range places {
		for _, b := range places {
			for _, c := range places {
				if crossed(a, b, c) != 0 {
					return false
				}
			}
		}
	}
	return true
}
