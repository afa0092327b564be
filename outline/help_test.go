package outline_test

import (
	"math/rand/v2"
	"slices"
	"testing"

	"pantoscope/api"
	"pantoscope/outline"
)

// xy makes a list of corners of pairs of numbers.
func xy(numbers ...int) []api.XY {
	var o []api.XY
	for i := 0; i+1 < len(numbers); i += 2 {
		o = append(o, api.XY{X: numbers[i], Y: numbers[i+1]})
	}
	return o
}

func square() []api.XY   { return xy(-2, -1, 2, -1, 2, 1, -2, 1) }
func triangle() []api.XY { return xy(0, 0, 1, 0, 0, 1) }

// box is a rectangle around (0, 0), 2x wide and 2y high.
func box(x, y int) []api.XY { return xy(-x, -y, x, -y, x, y, -x, y) }

func rolled(o []api.XY, n int) []api.XY { return slices.Concat(o[n:], o[:n]) }

func changed(o []api.XY, change func(api.XY) api.XY) []api.XY {
	var out []api.XY
	for _, p := range o {
		out = append(out, change(p))
	}
	return out
}

func shifted(o []api.XY, dx, dy int) []api.XY {
	return changed(o, func(p api.XY) api.XY { return api.XY{X: p.X + dx, Y: p.Y + dy} })
}

// many is an outline with n corners, at most 80, in canonical form. Its sides are at most 12 long in each coordinate.
func many(n int) []api.XY {
	var steps []api.XY
	for x := 12; x >= -12; x-- {
		for y := 0; y <= 12; y++ {
			if gcd(x, y) == 1 && (y > 0 || x > 0) {
				steps = append(steps, api.XY{X: x, Y: y})
			}
		}
	}
	slices.SortFunc(steps, func(a, b api.XY) int { return b.X*a.Y - b.Y*a.X })
	steps = steps[:40]
	o := []api.XY{{}}
	for _, sign := range []int{1, -1} {
		for _, s := range steps {
			last := o[len(o)-1]
			o = append(o, api.XY{X: last.X + sign*s.X, Y: last.Y + sign*s.Y})
		}
	}
	return o[:n]
}

func gcd(a, b int) int {
	for b != 0 {
		a, b = b, a%b
	}
	return max(a, -a)
}

func randomPlaces(r *rand.Rand, n, most int) []api.XY {
	var places []api.XY
	for range n {
		places = append(places, api.XY{X: r.IntN(2*most+1) - most, Y: r.IntN(2*most+1) - most})
	}
	return places
}

// outlines are n different valid outlines, some of them small, some of them as large as can be, begun anywhere.
func outlines(t *testing.T, n int) [][]api.XY {
	t.Helper()
	r := rand.New(rand.NewPCG(1, 2))
	var list [][]api.XY
	for len(list) < n {
		most := []int{2, 6, 50, api.MaxPlace}[len(list)%4]
		h, e := outline.Hull(randomPlaces(r, 3+r.IntN(20), most))
		if e == api.OK {
			list = append(list, rolled(h, r.IntN(len(h))))
		}
	}
	return list
}

// must stops a test if a call that has to succeed does not.
func must[T any](t *testing.T) func(T, api.Errno) T {
	return func(v T, e api.Errno) T {
		t.Helper()
		if e != api.OK {
			t.Fatalf("error %d", e)
		}
		return v
	}
}

func crossed(a, b, c api.XY) int { return (b.X-a.X)*(c.Y-b.Y) - (b.Y-a.Y)*(c.X-b.X) }

// strictlyInside tells whether p is inside o, not on a side.
func strictlyInside(o []api.XY, p api.XY) bool {
	for i, a := range o {
		if crossed(a, o[(i+1)%len(o)], p) <= 0 {
			return false
		}
	}
	return true
}

func reachOf(o []api.XY, u, v int) int {
	most := u*o[0].X + v*o[0].Y
	for _, p := range o {
		most = max(most, u*p.X+v*p.Y)
	}
	return most
}
