package outline_test

import (
	"math"
	"math/big"
	"testing"

	"pantoscope/api"
	"pantoscope/outline"
)

// rootOf is the square root of n, rounded down.
func rootOf(n int) int {
	return int(new(big.Int).Sqrt(big.NewInt(int64(n))).Int64())
}

// P1.8
func TestAround(t *testing.T) {
	m := api.MaxPlace
	for _, c := range []struct {
		o         []api.XY
		low, high int
	}{
		{square(), 12, 12},
		{triangle(), 3, 4},
		{xy(0, 0, 4, 0, 0, 3), 12, 12},
		{xy(0, 0, 3, 1, 2, 5), 3 + 4 + 5, 4 + 5 + 6},
		{box(m, m), 40000, 40000},
		{xy(-m, -m, m, -m, m, m), 34142, 34143},
	} {
		if low, high, e := outline.Around(c.o); low != c.low || high != c.high || e != api.OK {
			t.Errorf("Around(%v): %d, %d, %d", c.o, low, high, e)
		}
	}
	for _, o := range outlines(t, 300) {
		wantLow, wantHigh := 0, 0
		for i, a := range o {
			b := o[(i+1)%len(o)]
			n := (b.X-a.X)*(b.X-a.X) + (b.Y-a.Y)*(b.Y-a.Y)
			wantLow += rootOf(n)
			wantHigh += rootOf(n-1) + 1
		}
		if low, high, e := outline.Around(o); low != wantLow || high != wantHigh || e != api.OK {
			t.Fatalf("Around(%v): %d, %d, %d", o, low, high, e)
		}
	}
}

// P1.8
func TestDiameter(t *testing.T) {
	m := api.MaxPlace
	for _, c := range []struct {
		o    []api.XY
		want int
	}{
		{square(), 5},
		{triangle(), 2},
		{shifted(triangle(), 3, 3), 10}, // 4 * (9 + 16) = 100
		{shifted(triangle(), 3, 4), 12}, // 4 * (16 + 16) = 128, 4 * (9 + 25) = 136
		{shifted(triangle(), -4, -3), 10},
		{xy(-3, -4, 0, 0, -1, 0), 10},
		{xy(0, 0, 2, 0, 0, 9), 18},
		{box(m, m), 14143},
	} {
		if got, e := outline.Diameter(c.o); got != c.want || e != api.OK {
			t.Errorf("Diameter(%v): %d, %d", c.o, got, e)
		}
	}
	for _, o := range outlines(t, 300) {
		far := 0
		for _, p := range o {
			far = max(far, p.X*p.X+p.Y*p.Y)
		}
		if got, e := outline.Diameter(o); got != rootOf(4*far-1)+1 || e != api.OK {
			t.Fatalf("Diameter(%v): %d, %d", o, got, e)
		}
	}
}

// P1.8
func TestBlank(t *testing.T) {
	lens := box(2500, 1000) // Diameter 5386
	for _, c := range []struct {
		o              []api.XY
		bridge, pupils int
		want           int
		err            api.Errno
	}{
		{lens, 1800, 6400, 5386 + 400 + 200, api.OK},
		{lens, 1800, 7200, 5386 + 400 + 200, api.OK},
		{lens, 1800, 6800, 5386 + 200, api.OK},
		{lens, 1800, 6801, 5386 + 1 + 200, api.OK},
		{lens, 0, 0, 5386 + 5000 + 200, api.OK},
		{lens, 20000, 0, 5386 + 25000 + 200, api.OK},
		{lens, 0, 20000, 5386 + 15000 + 200, api.OK},
		{rolled(xy(-2400, -1350, 2600, -1350, 2600, 1350, -2400, 1350), 3), 1700, 6300, 5860 + 400 + 200, api.OK},
		{lens, -1, 6400, 0, api.ErrArg},
		{lens, 20001, 6400, 0, api.ErrArg},
		{lens, 1800, -1, 0, api.ErrArg},
		{lens, 1800, 20001, 0, api.ErrArg},
		{lens, math.MaxInt, math.MinInt, 0, api.ErrArg},
		{lens, math.MinInt, math.MaxInt, 0, api.ErrArg},
	} {
		if got, e := outline.Blank(c.o, c.bridge, c.pupils); got != c.want || e != c.err {
			t.Errorf("Blank(%v, %d, %d): %d, %d", c.o, c.bridge, c.pupils, got, e)
		}
	}
}

// P1.14
func TestMeasures(t *testing.T) {
	even := 0
	for _, o := range outlines(t, 600) {
		low, high, e := outline.Around(o)
		if e != api.OK || low > high || high > low+len(o) {
			t.Fatalf("Around(%v): %d, %d, %d", o, low, high, e)
		}
		a, b, _ := outline.Box(o)
		if a%2 != 0 || b%2 != 0 {
			continue
		}
		even++
		c := must[[]api.XY](t)(outline.Centred(o))
		if d := must[int](t)(outline.Diameter(c)); d < a || d < b {
			t.Fatalf("Diameter(%v): %d, less than %d or %d", c, d, a, b)
		}
	}
	if even == 0 {
		t.Error("no outline had an even box")
	}
}
