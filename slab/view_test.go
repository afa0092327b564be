package slab_test

import (
	"math"
	"math/rand/v2"
	"slices"
	"testing"

	"pantoscope/api"
	"pantoscope/slab"
)

// brick is a block of 2, 2 and 3 cells: the layers of z are ab over cd, ef over gh, and ii over ia.
func brick() api.Block {
	sheet := func(first, second string) api.Block { return stack(1, row(first), row(second)) }
	return stack(2, stack(2, sheet("ab", "cd"), sheet("ef", "gh")), sheet("ii", "ia"))
}

// P2.4: Layer and Depth.
func TestLayers(t *testing.T) {
	for _, c := range []struct {
		axis, n int
		want    []string
	}{
		{0, 0, []string{"ac", "eg", "ii"}}, {0, 1, []string{"bd", "fh", "ia"}},
		{1, 0, []string{"ab", "ef", "ii"}}, {1, 1, []string{"cd", "gh", "ia"}},
		{2, 0, []string{"ab", "cd"}}, {2, 1, []string{"ef", "gh"}}, {2, 2, []string{"ii", "ia"}},
	} {
		if l, e := slab.Layer(brick(), c.axis, c.n); !slices.Equal(l, c.want) || e != api.OK {
			t.Errorf("Layer(%d, %d): %q, %d", c.axis, c.n, l, e)
		}
	}
	for _, c := range []struct {
		x, y int
		want string
	}{{0, 0, "aei"}, {1, 0, "bfi"}, {0, 1, "cgi"}, {1, 1, "dha"}} {
		if d, e := slab.Depth(brick(), c.x, c.y); d != c.want || e != api.OK {
			t.Errorf("Depth(%d, %d): %q, %d", c.x, c.y, d, e)
		}
	}
}

func TestLayersErrArg(t *testing.T) {
	for _, c := range [][2]int{{-1, 0}, {3, 0}, {0, -1}, {0, 2}, {1, 2}, {2, 3}, {2, -1}, {math.MaxInt, 0}, {math.MinInt, 0}, {0, math.MaxInt}, {0, math.MinInt}, {9, 9}} {
		if l, e := slab.Layer(brick(), c[0], c[1]); len(l) != 0 || e != api.ErrArg {
			t.Errorf("Layer(%d, %d): %q, %d", c[0], c[1], l, e)
		}
	}
	for _, c := range [][2]int{{-1, 0}, {0, -1}, {2, 0}, {0, 2}, {2, 2}, {math.MaxInt, 0}, {0, math.MaxInt}, {math.MinInt, math.MinInt}} {
		if d, e := slab.Depth(brick(), c[0], c[1]); d != "" || e != api.ErrArg {
			t.Errorf("Depth(%d, %d): %q, %d", c[0], c[1], d, e)
		}
	}
}

// P2.4: Layer, Depth and Window of many recipes.
func TestViewsOfRecipes(t *testing.T) {
	r := rand.New(rand.NewPCG(9, 10))
	for _, b := range recipes(t, 300) {
		g := gridOf(b)
		for axis, others := range [3][2]int{{1, 2}, {0, 2}, {0, 1}} {
			n := r.IntN(g.extent[axis])
			l := must[[]string](t)(slab.Layer(b, axis, n))
			if len(l) != g.extent[others[1]] || len(l[0]) != g.extent[others[0]] {
				t.Fatalf("Layer(%v, %d, %d): %q", b, axis, n, l)
			}
			var cell [3]int
			cell[axis] = n
			for i := range l {
				for j := range len(l[i]) {
					cell[others[0]], cell[others[1]] = j, i
					if l[i][j] != g.cells[cell] {
						t.Fatalf("Layer(%v, %d, %d): %q", b, axis, n, l)
					}
				}
			}
		}
		x, y := r.IntN(g.extent[0]), r.IntN(g.extent[1])
		d := must[string](t)(slab.Depth(b, x, y))
		for z := range g.extent[2] {
			if len(d) != g.extent[2] || d[z] != g.cells[[3]int{x, y, z}] {
				t.Fatalf("Depth(%v, %d, %d): %q", b, x, y, d)
			}
		}
		w := api.Rect{X: x, Y: y, W: 1 + r.IntN(g.extent[0]-x), H: 1 + r.IntN(g.extent[1]-y)}
		if l := must[[]string](t)(slab.Window(b, w)); !slices.Equal(l, windowOf(g, w)) {
			t.Fatalf("Window(%v, %v): %q", b, w, l)
		}
	}
}

func windowOf(g grid, r api.Rect) []string {
	var list []string
	for y := r.Y; y < r.Y+r.H; y++ {
		var line []byte
		for x := r.X; x < r.X+r.W; x++ {
			line = append(line, g.cells[[3]int{x, y, 0}])
		}
		list = append(list, string(line))
	}
	return list
}

// sheet has the layer abba, cddc, abab; and another one below, of i.
func sheet() api.Block {
	return stack(2, stack(1, stack(1, row("abba"), row("cddc")), row("abab")), solid('i', 4, 3, 1))
}

// P2.4: Window.
func TestWindow(t *testing.T) {
	for _, c := range []struct {
		r    api.Rect
		want []string
	}{
		{api.Rect{W: 4, H: 3}, []string{"abba", "cddc", "abab"}},
		{api.Rect{X: 1, Y: 1, W: 2, H: 1}, []string{"dd"}},
		{api.Rect{X: 3, Y: 2, W: 1, H: 1}, []string{"b"}},
		{api.Rect{X: 3, W: 1, H: 3}, []string{"a", "c", "b"}},
		{api.Rect{X: 0, Y: 1, W: 3, H: 2}, []string{"cdd", "aba"}},
	} {
		if l, e := slab.Window(sheet(), c.r); !slices.Equal(l, c.want) || e != api.OK {
			t.Errorf("Window(%v): %q, %d", c.r, l, e)
		}
	}
}

// outside are rectangles that are no windows of sheet.
func outside() []api.Rect {
	most, least := math.MaxInt, math.MinInt
	return []api.Rect{
		{}, {W: 1}, {H: 1}, {W: -1, H: 1}, {W: 1, H: -1}, {X: -1, W: 1, H: 1}, {Y: -1, W: 1, H: 1}, {X: -1, W: 2, H: 1}, {Y: -1, W: 1, H: 2},
		{W: 5, H: 1}, {W: 1, H: 4}, {X: 4, W: 1, H: 1}, {Y: 3, W: 1, H: 1}, {X: 2, W: 3, H: 1}, {Y: 2, W: 1, H: 2}, {X: 4, H: 1}, {Y: 3, W: 1},
		{X: most, W: 1, H: 1}, {X: most, W: most, H: 1}, {Y: most, W: 1, H: most}, {X: 1, W: most, H: 1}, {Y: 1, W: 1, H: most}, {X: 5, W: -1, H: 1},
		{X: least, W: least, H: 1}, {X: least, W: most, H: 1}, {Y: least, W: 1, H: most}, {X: most, W: least, H: 1}, {X: 1, W: least, H: 1}, {W: 3, H: least},
	}
}

func TestWindowErrArg(t *testing.T) {
	for _, r := range outside() {
		if l, e := slab.Window(sheet(), r); len(l) != 0 || e != api.ErrArg {
			t.Errorf("Window(%v): %q, %d", r, l, e)
		}
		for _, s := range append(outside(), api.Rect{W: 1, H: 1}, api.Rect{W: 4, H: 3}) {
			if ok, e := slab.Matches(sheet(), r, s); ok || e != api.ErrArg {
				t.Errorf("Matches(%v, %v): %v, %d", r, s, ok, e)
			}
			if ok, e := slab.Matches(sheet(), s, r); ok || e != api.ErrArg {
				t.Errorf("Matches(%v, %v): %v, %d", s, r, ok, e)
			}
		}
	}
}

// P2.5: Matches.
func TestMatches(t *testing.T) {
	for _, c := range []struct {
		r, s api.Rect
		want bool
	}{
		{api.Rect{X: 0, Y: 0, W: 2, H: 1}, api.Rect{X: 2, Y: 0, W: 2, H: 1}, true},  // ab, ba
		{api.Rect{X: 0, Y: 0, W: 2, H: 2}, api.Rect{X: 2, Y: 0, W: 2, H: 2}, true},  // ab over cd, ba over dc
		{api.Rect{X: 0, Y: 0, W: 2, H: 3}, api.Rect{X: 2, Y: 0, W: 2, H: 3}, false}, // the last ones are ab and ab
		{api.Rect{X: 0, Y: 2, W: 2, H: 1}, api.Rect{X: 2, Y: 2, W: 2, H: 1}, false}, // the same, but no mirror
		{api.Rect{X: 0, Y: 2, W: 3, H: 1}, api.Rect{X: 1, Y: 2, W: 3, H: 1}, false}, // in common
		{api.Rect{X: 0, Y: 0, W: 4, H: 1}, api.Rect{X: 0, Y: 0, W: 4, H: 1}, false}, // abba itself
		{api.Rect{X: 0, Y: 0, W: 1, H: 1}, api.Rect{X: 3, Y: 0, W: 1, H: 1}, true},  // a, a
		{api.Rect{X: 0, Y: 0, W: 1, H: 1}, api.Rect{X: 1, Y: 0, W: 1, H: 1}, false}, // a, b
		{api.Rect{X: 0, Y: 0, W: 2, H: 1}, api.Rect{X: 1, Y: 2, W: 2, H: 1}, true},  // ab, ba
		{api.Rect{X: 0, Y: 0, W: 2, H: 1}, api.Rect{X: 0, Y: 2, W: 2, H: 1}, false}, // ab, ab
		{api.Rect{X: 0, Y: 0, W: 1, H: 2}, api.Rect{X: 3, Y: 0, W: 1, H: 2}, true},  // a over c twice
		{api.Rect{X: 0, Y: 0, W: 1, H: 2}, api.Rect{X: 3, Y: 1, W: 1, H: 2}, false}, // a over c, c over b
		{api.Rect{X: 0, Y: 0, W: 1, H: 1}, api.Rect{X: 3, Y: 0, W: 1, H: 2}, false}, // other heights
		{api.Rect{X: 0, Y: 0, W: 1, H: 1}, api.Rect{X: 2, Y: 0, W: 2, H: 1}, false}, // a, ba
		{api.Rect{X: 0, Y: 0, W: 1, H: 1}, api.Rect{X: 2, Y: 2, W: 2, H: 1}, false}, // a, ab
		{api.Rect{X: 0, Y: 0, W: 1, H: 1}, api.Rect{X: 0, Y: 2, W: 1, H: 1}, true},  // a, a
		{api.Rect{X: 1, Y: 1, W: 1, H: 1}, api.Rect{X: 1, Y: 1, W: 2, H: 1}, false}, // other widths
		{api.Rect{X: 1, Y: 1, W: 1, H: 1}, api.Rect{X: 2, Y: 1, W: 1, H: 1}, true},  // d, d
		{api.Rect{X: 1, Y: 1, W: 1, H: 1}, api.Rect{X: 1, Y: 1, W: 1, H: 1}, false}, // one cell
		{api.Rect{X: 0, Y: 1, W: 3, H: 1}, api.Rect{X: 1, Y: 1, W: 3, H: 1}, false}, // cdd, ddc, in common
	} {
		for _, d := range [][2]api.Rect{{c.r, c.s}, {c.s, c.r}} {
			if ok, e := slab.Matches(sheet(), d[0], d[1]); ok != c.want || e != api.OK {
				t.Errorf("Matches(%v, %v): %v, %d", d[0], d[1], ok, e)
			}
		}
	}
	// Windows that have but one corner, one column or one row in common.
	plain := solid('a', 9, 9, 2)
	for _, c := range []struct {
		x, y int
		want bool
	}{{2, 2, false}, {-2, -2, false}, {2, -2, false}, {-2, 2, false}, {3, 0, true}, {-3, 0, true}, {0, 3, true}, {0, -3, true}, {0, 2, false}, {2, 0, false}, {3, 3, true}} {
		r, s := api.Rect{X: 3, Y: 3, W: 3, H: 3}, api.Rect{X: 3 + c.x, Y: 3 + c.y, W: 3, H: 3}
		if ok, e := slab.Matches(plain, r, s); ok != c.want || e != api.OK {
			t.Errorf("Matches(%v, %v): %v, %d", r, s, ok, e)
		}
	}
}

// P2.5: Matches is as the windows say.
func TestMatchesOfRecipes(t *testing.T) {
	r := rand.New(rand.NewPCG(11, 12))
	matches := 0
	for _, b := range recipes(t, 500) {
		b = stack(0, flip(0, b), b)
		extent, e := slab.Extent(b)
		if e != api.OK {
			continue
		}
		g := gridOf(b)
		for range 10 {
			x, y := r.IntN(extent[0]), r.IntN(extent[1])
			u := api.Rect{X: x, Y: y, W: 1 + r.IntN(extent[0]-x), H: 1 + r.IntN(extent[1]-y)}
			v := api.Rect{X: extent[0] - x - u.W, Y: y, W: u.W, H: u.H} // where the mirror is
			if r.IntN(3) == 0 {
				v.X = r.IntN(extent[0] - u.W + 1)
			}
			want := mirrorOf(g, u, v)
			if ok, e := slab.Matches(b, u, v); ok != want || e != api.OK {
				t.Fatalf("Matches(%v, %v, %v): %v, %d", b, u, v, ok, e)
			} else if ok {
				matches++
			}
		}
	}
	if matches < 100 {
		t.Errorf("%d matches", matches)
	}
}

func mirrorOf(g grid, r, s api.Rect) bool {
	taken := map[[2]int]bool{}
	for i := range r.W {
		for j := range r.H {
			taken[[2]int{r.X + i, r.Y + j}] = true
			if g.cells[[3]int{r.X + i, r.Y + j, 0}] != g.cells[[3]int{s.X + s.W - 1 - i, s.Y + j, 0}] {
				return false
			}
		}
	}
	for i := range s.W {
		for j := range s.H {
			if taken[[2]int{s.X + i, s.Y + j}] {
				return false
			}
		}
	}
	return true
}
