package outline_test

import (
	"math"
	"math/rand/v2"
	"slices"
	"testing"

	"pantoscope/api"
	"pantoscope/outline"
)

// meet tells whether the sides from a to b and from c to d have a place in common.
func meet(a, b, c, d api.XY) bool {
	sign := func(n int) int { return min(1, max(-1, n)) }
	on := func(p, q, r api.XY) bool {
		return crossed(p, q, r) == 0 && min(p.X, q.X) <= r.X && r.X <= max(p.X, q.X) && min(p.Y, q.Y) <= r.Y && r.Y <= max(p.Y, q.Y)
	}
	if sign(crossed(a, b, c))*sign(crossed(a, b, d)) < 0 && sign(crossed(c, d, a))*sign(crossed(c, d, b)) < 0 {
		return true
	}
	return on(a, b, c) || on(a, b, d) || on(c, d, a) || on(c, d, b)
}

// validAsWritten follows the words of the chapter, but for the limits.
func validAsWritten(o []api.XY) bool {
	n := len(o)
	for i := range n {
		if crossed(o[i], o[(i+1)%n], o[(i+2)%n]) <= 0 {
			return false
		}
	}
	for i := range n {
		for j := i + 2; j < n; j++ {
			if (j+1)%n != i && meet(o[i], o[i+1], o[j], o[(j+1)%n]) {
				return false
			}
		}
	}
	return n >= 3
}

// P1.2
func TestValid(t *testing.T) {
	m := api.MaxPlace
	for _, c := range []struct {
		name string
		o    []api.XY
		want bool
	}{
		{"triangle", triangle(), true},
		{"square", square(), true},
		{"square begun elsewhere", rolled(square(), 3), true},
		{"greatest box", box(m, m), true},
		{"64 corners", many(64), true},
		{"65 corners", many(65), false},
		{"80 corners", many(80), false},
		{"nil", nil, false},
		{"empty", []api.XY{}, false},
		{"one corner", xy(0, 0), false},
		{"two corners", xy(0, 0, 1, 0), false},
		{"a line", xy(0, 0, 1, 0, 2, 0), false},
		{"clockwise", xy(0, 0, 0, 1, 1, 0), false},
		{"a corner on a side", xy(0, 0, 1, 0, 2, 0, 0, 2), false},
		{"last corner on a side", xy(0, 0, 2, 0, 0, 2, 0, 1), false},
		{"first corner on a side", xy(1, 0, 2, 0, 0, 2, 0, 0), false},
		{"a corner twice", xy(0, 0, 0, 0, 2, 0, 0, 2), false},
		{"first corner again at the end", xy(0, 0, 2, 0, 0, 2, 0, 0), false},
		{"all corners one place", xy(1, 1, 1, 1, 1, 1), false},
		{"concave", xy(0, 0, 4, 0, 1, 1, 0, 4), false},
		{"bow tie", xy(0, 0, 2, 0, 0, 2, 2, 2), false},
		{"star of five, twice around", xy(0, -10, 6, 8, -10, -3, 10, -3, -6, 8), false},
		{"triangle twice around", xy(0, 0, 9, 0, 0, 9, 0, 0, 9, 0, 0, 9), false},
		{"square and triangle around", xy(-9, -9, 9, -9, 9, 9, -9, 9, -3, -2, 3, -2, 0, 4), false},
		{"X too great", xy(0, 0, m+1, 0, 0, 1), false},
		{"X too small", xy(-m-1, 0, 1, 0, 0, 1), false},
		{"Y too great", xy(0, 0, 1, 0, 0, m+1), false},
		{"Y too small", xy(0, -m-1, 1, 0, 0, 1), false},
		{"huge", xy(math.MinInt, math.MinInt, math.MaxInt, math.MinInt, 0, math.MaxInt), false},
		{"2 to the 63rd", xy(0, 0, math.MinInt, 0, 0, 1), false},
	} {
		if got := outline.Valid(c.o); got != c.want {
			t.Errorf("%s: %v", c.name, got)
		}
	}
}

// P1.2
func TestValidAsWritten(t *testing.T) {
	for _, c := range []struct{ corners, grid int }{{3, 4}, {4, 4}, {5, 3}} {
		total := 1
		for range 2 * c.corners {
			total *= c.grid
		}
		for code := range total {
			o, rest := make([]api.XY, c.corners), code
			for i := range o {
				o[i] = api.XY{X: rest % c.grid, Y: rest / c.grid % c.grid}
				rest /= c.grid * c.grid
			}
			if got, want := outline.Valid(o), validAsWritten(o); got != want {
				t.Fatalf("Valid(%v): %v", o, got)
			}
		}
	}
	r := rand.New(rand.NewPCG(3, 4))
	twice := 0
	for range 300000 {
		o := randomPlaces(r, 5+r.IntN(3), 10)
		want := validAsWritten(o)
		if got := outline.Valid(o); got != want {
			t.Fatalf("Valid(%v): %v", o, got)
		}
		left := true
		for i := range o {
			left = left && crossed(o[i], o[(i+1)%len(o)], o[(i+2)%len(o)]) > 0
		}
		if left && !want {
			twice++
		}
	}
	if twice == 0 {
		t.Error("no list turned left and went round more than once")
	}
}

// P1.2
func TestCanonical(t *testing.T) {
	for _, c := range []struct{ o, want []api.XY }{
		{triangle(), triangle()},
		{xy(2, 1, -2, 1, -2, -1, 2, -1), square()},
		{xy(1, 0, 0, 1, 0, 0), triangle()},
		{xy(-5, 3, 0, -4, 5, 3), xy(0, -4, 5, 3, -5, 3)},
		{xy(-9, 0, 7, -1, 8, -1, 0, 5), xy(7, -1, 8, -1, 0, 5, -9, 0)},
	} {
		if got, e := outline.Canonical(c.o); !slices.Equal(got, c.want) || e != api.OK {
			t.Errorf("Canonical(%v): %v, %d", c.o, got, e)
		}
	}
}

// P1.2
func TestSame(t *testing.T) {
	for _, c := range []struct {
		o, p []api.XY
		want bool
	}{
		{square(), square(), true},
		{square(), rolled(square(), 2), true},
		{rolled(triangle(), 1), rolled(triangle(), 2), true},
		{square(), triangle(), false},
		{square(), shifted(square(), 1, 0), false},
		{square(), box(2, 2), false},
		{xy(0, 0, 2, 0, 0, 2), xy(0, 0, 2, 0, 1, 1, 0, 2)[:3], false},
	} {
		if got, e := outline.Same(c.o, c.p); got != c.want || e != api.OK {
			t.Errorf("Same(%v, %v): %v, %d", c.o, c.p, got, e)
		}
	}
}

// P1.3
func TestBox(t *testing.T) {
	for _, c := range []struct {
		o    []api.XY
		a, b int
	}{
		{square(), 4, 2},
		{triangle(), 1, 1},
		{xy(3, -7, 8, 0, 4, 9), 5, 16},
		{xy(-9, -3, -4, -5, -6, -2), 5, 3},
		{box(api.MaxPlace, api.MaxPlace), 10000, 10000},
	} {
		if a, b, e := outline.Box(c.o); a != c.a || b != c.b || e != api.OK {
			t.Errorf("Box(%v): %d, %d, %d", c.o, a, b, e)
		}
	}
}

// P1.3
func TestCentred(t *testing.T) {
	m := api.MaxPlace
	for _, c := range []struct{ o, want []api.XY }{
		{square(), square()},
		{xy(0, 0, 5, 0, 0, 4), xy(-2, -2, 3, -2, -2, 2)},
		{xy(0, 0, -4, 0, 0, -5), xy(2, -2, 2, 3, -2, 3)},
		{xy(-5, 0, 0, 0, -5, 3), xy(-2, -1, 3, -1, -2, 2)},
		{xy(-1, 0, 0, -1, 0, 0), xy(1, 0, 1, 1, 0, 1)},
		{rolled(shifted(square(), 90, -70), 2), square()},
		{xy(m-1, m-1, m, m-1, m, m), xy(0, 0, 1, 0, 1, 1)},
		{xy(-m, -m, m, -m, m, m-1), xy(-m, -m+1, m, -m+1, m, m)},
	} {
		if got, e := outline.Centred(c.o); !slices.Equal(got, c.want) || e != api.OK {
			t.Errorf("Centred(%v): %v, %d", c.o, got, e)
		}
	}
}

// P1.3
func TestArea2(t *testing.T) {
	for _, c := range []struct {
		o    []api.XY
		want int
	}{
		{square(), 16},
		{triangle(), 1},
		{shifted(triangle(), -5000, 4999), 1},
		{xy(0, 0, 4, 1, 3, 5, -1, 2), 28},
		{box(api.MaxPlace, api.MaxPlace), 200000000},
	} {
		if got, e := outline.Area2(c.o); got != c.want || e != api.OK {
			t.Errorf("Area2(%v): %d, %d", c.o, got, e)
		}
	}
}

// P1.4
func TestMirrorAndTurned(t *testing.T) {
	slanted := xy(5, 4, 1, 2, 3, 1)
	for _, c := range []struct {
		name string
		f    func([]api.XY) ([]api.XY, api.Errno)
		o    []api.XY
		want []api.XY
	}{
		{"Mirror", outline.Mirror, triangle(), xy(-1, 0, 0, 0, 0, 1)},
		{"Mirror", outline.Mirror, rolled(square(), 1), square()},
		{"Mirror", outline.Mirror, slanted, xy(-3, 1, -1, 2, -5, 4)},
		{"Turned", outline.Turned, triangle(), xy(0, -1, 0, 0, -1, 0)},
		{"Turned", outline.Turned, rolled(square(), 1), square()},
		{"Turned", outline.Turned, slanted, xy(-5, -4, -1, -2, -3, -1)},
	} {
		if got, e := c.f(c.o); !slices.Equal(got, c.want) || e != api.OK {
			t.Errorf("%s(%v): %v, %d", c.name, c.o, got, e)
		}
	}
}

// P1.4
func TestMoved(t *testing.T) {
	m := api.MaxPlace
	corner := xy(-m, -m, -m+1, -m, -m, -m+1)
	for _, c := range []struct {
		o      []api.XY
		dx, dy int
		want   []api.XY
		err    api.Errno
	}{
		{triangle(), 3, -7, xy(3, -7, 4, -7, 3, -6), api.OK},
		{rolled(triangle(), 1), 0, 0, triangle(), api.OK},
		{triangle(), m - 1, 0, xy(m-1, 0, m, 0, m-1, 1), api.OK},
		{triangle(), m, 0, nil, api.ErrArg},
		{triangle(), -m, 0, xy(-m, 0, -m+1, 0, -m, 1), api.OK},
		{triangle(), -m - 1, 0, nil, api.ErrArg},
		{triangle(), 0, m - 1, xy(0, m-1, 1, m-1, 0, m), api.OK},
		{triangle(), 0, m, nil, api.ErrArg},
		{triangle(), 0, -m, xy(0, -m, 1, -m, 0, -m+1), api.OK},
		{triangle(), 0, -m - 1, nil, api.ErrArg},
		{corner, 2*m - 1, 2*m - 1, xy(m-1, m-1, m, m-1, m-1, m), api.OK},
		{corner, 2 * m, 0, nil, api.ErrArg},
		{corner, 0, 2 * m, nil, api.ErrArg},
		{corner, 2*m + 1, 0, nil, api.ErrArg},
		{corner, 0, 2*m + 1, nil, api.ErrArg},
		{corner, math.MaxInt, 0, nil, api.ErrArg},
		{corner, 0, math.MinInt, nil, api.ErrArg},
		{corner, math.MinInt, math.MaxInt, nil, api.ErrArg},
	} {
		if got, e := outline.Moved(c.o, c.dx, c.dy); !slices.Equal(got, c.want) || e != c.err {
			t.Errorf("Moved(%v, %d, %d): %v, %d", c.o, c.dx, c.dy, got, e)
		}
	}
}

// P1.10
func TestForms(t *testing.T) {
	for _, o := range outlines(t, 400) {
		form := must[[]api.XY](t)(outline.Canonical(o))
		for n := range o {
			if got, e := outline.Canonical(rolled(o, n)); !slices.Equal(got, form) || e != api.OK {
				t.Fatalf("Canonical(%v): %v, not %v", rolled(o, n), got, form)
			}
		}
		for name, f := range map[string]func([]api.XY) ([]api.XY, api.Errno){"Mirror": outline.Mirror, "Turned": outline.Turned} {
			once := must[[]api.XY](t)(f(o))
			twice := must[[]api.XY](t)(f(once))
			if !outline.Valid(once) || !slices.Equal(once, must[[]api.XY](t)(outline.Canonical(once))) {
				t.Fatalf("%s(%v) is not in canonical form: %v", name, o, once)
			}
			if !slices.Equal(twice, form) {
				t.Fatalf("%s of %s of %v: %v", name, name, o, twice)
			}
			sameMeasures(t, o, once)
		}
		text := must[string](t)(outline.Format(api.Trace{Job: "JOB1", Side: 'L', O: o}))
		back := must[api.Trace](t)(outline.Parse(text))
		if back.Job != "JOB1" || back.Side != 'L' || !slices.Equal(back.O, form) {
			t.Fatalf("Parse of Format of %v: %v", o, back)
		}
	}
}

func sameMeasures(t *testing.T, o, p []api.XY) {
	t.Helper()
	a, b, _ := outline.Box(o)
	c, d, _ := outline.Box(p)
	low, high, _ := outline.Around(o)
	low2, high2, _ := outline.Around(p)
	area, _ := outline.Area2(o)
	area2, _ := outline.Area2(p)
	if a != c || b != d || low != low2 || high != high2 || area != area2 {
		t.Fatalf("other measures: %v, %v", o, p)
	}
}
