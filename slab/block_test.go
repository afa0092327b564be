package slab_test

import (
	"math"
	"math/rand/v2"
	"testing"

	"pantoscope/api"
	"pantoscope/slab"
)

// colours reads the cells of b along an axis, from (0, 0, 0) on.
func colours(t *testing.T, b api.Block, axis int) string {
	t.Helper()
	var out []byte
	for i := range must[[3]int](t)(slab.Extent(b))[axis] {
		var cell [3]int
		cell[axis] = i
		out = append(out, must[byte](t)(slab.At(b, cell)))
	}
	return string(out)
}

// Example 1.
func TestExampleOfRows(t *testing.T) {
	b := stack(0, solid('a', 2, 1, 1), solid('b', 1, 1, 1))
	for _, c := range []struct {
		b      api.Block
		extent [3]int
		axis   int
		want   string
	}{
		{b, [3]int{3, 1, 1}, 0, "aab"},
		{flip(0, b), [3]int{3, 1, 1}, 0, "baa"},
		{turn(2, b), [3]int{1, 3, 1}, 1, "aab"},
	} {
		extent, e := slab.Extent(c.b)
		if extent != c.extent || e != api.OK || colours(t, c.b, c.axis) != c.want {
			t.Errorf("%v: %v, %d, %q", c.b, extent, e, colours(t, c.b, c.axis))
		}
	}
}

// P2.3, P2.10: quarter turns, cell by cell.
func TestTurns(t *testing.T) {
	abc := row("abc")
	for _, c := range []struct {
		name   string
		b      api.Block
		extent [3]int
		axis   int
		want   string
	}{
		{"x, of a row along x", turn(0, abc), [3]int{3, 1, 1}, 0, "abc"},
		{"y, of a row along x", turn(1, abc), [3]int{1, 1, 3}, 2, "cba"},
		{"z, of a row along x", turn(2, abc), [3]int{1, 3, 1}, 1, "abc"},
		{"x, of a row along y", turn(0, turn(2, abc)), [3]int{1, 1, 3}, 2, "abc"},
		{"y, of a row along y", turn(1, turn(2, abc)), [3]int{1, 3, 1}, 1, "abc"},
		{"z, of a row along y", turn(2, turn(2, abc)), [3]int{3, 1, 1}, 0, "cba"},
		{"x, of a row along z", turn(0, turn(1, abc)), [3]int{1, 3, 1}, 1, "abc"},
		{"y, of a row along z", turn(1, turn(1, abc)), [3]int{3, 1, 1}, 0, "cba"},
		{"z, of a row along z", turn(2, turn(1, abc)), [3]int{1, 1, 3}, 2, "cba"},
	} {
		extent, e := slab.Extent(c.b)
		if extent != c.extent || e != api.OK || colours(t, c.b, c.axis) != c.want {
			t.Errorf("%s: %v, %d, %q", c.name, extent, e, colours(t, c.b, c.axis))
		}
	}
}

// P2.3: slices, flips and repeats of rows.
func TestRows(t *testing.T) {
	for want, b := range map[string]api.Block{
		"abcde": row("abcde"), "bcd": slice(0, 1, 3, row("abcde")), "e": slice(0, 4, 1, row("abcde")), "edcba": flip(0, row("abcde")),
		"abab": repeat(0, 2, row("ab")), "aab": stack(0, row("a"), row("ab")), "aba": stack(0, row("ab"), row("a")), "ab": flip(1, row("ab")),
		"fghi": slice(0, 5, 4, row("abcdefghi")), "ccc": repeat(0, 3, row("c")), "babb": stack(0, flip(0, row("ab")), row("bb")),
	} {
		if s := colours(t, b, 0); s != want {
			t.Errorf("%v: %q, want %q", b, s, want)
		}
	}
}

// P2.3, P2.9: extents, colours and volumes of many recipes.
func TestCells(t *testing.T) {
	for _, b := range append(recipes(t, 400), solid('i', 20, 20, 20), row("abcdefghi"), turn(0, solid('a', 1, 200, 40))) {
		g := gridOf(b)
		if e := must[[3]int](t)(slab.Extent(b)); e != g.extent {
			t.Fatalf("Extent(%v): %v, want %v", b, e, g.extent)
		}
		var volumes [9]int
		for cell, c := range g.cells {
			volumes[c-'a']++
			if len(g.cells) > 500 && (cell[0]+cell[1]+cell[2])%7 != 0 {
				continue
			}
			if d := must[byte](t)(slab.At(b, cell)); d != c {
				t.Fatalf("At(%v, %v): %q, want %q", b, cell, d, c)
			}
		}
		if v := must[[9]int](t)(slab.Volumes(b)); v != volumes || total(v) != product(g.extent) {
			t.Fatalf("Volumes(%v): %v, want %v", b, v, volumes)
		}
	}
}

// P2.3: cells that a block does not have.
func TestAtErrArg(t *testing.T) {
	b := solid('a', 2, 3, 4)
	for _, cell := range [][3]int{{}, {1, 2, 3}, {1, 0, 0}, {0, 2, 0}, {0, 0, 3}} {
		if c, e := slab.At(b, cell); c != 'a' || e != api.OK {
			t.Errorf("At(%v): %q, %d", cell, c, e)
		}
	}
	for _, cell := range [][3]int{
		{2, 0, 0}, {0, 3, 0}, {0, 0, 4}, {-1, 0, 0}, {0, -1, 0}, {0, 0, -1}, {2, 3, 4}, {math.MaxInt, 0, 0}, {0, math.MinInt, 0}, {0, 0, math.MinInt},
	} {
		if c, e := slab.At(b, cell); c != 0 || e != api.ErrArg {
			t.Errorf("At(%v): %q, %d", cell, c, e)
		}
	}
}

// P2.5: Equal and Mirrored.
func TestEqual(t *testing.T) {
	b, c := solid('a', 2, 1, 1), solid('b', 2, 1, 1)
	for _, d := range []struct {
		b, c api.Block
		want bool
	}{
		{b, b, true}, {b, c, false}, {b, repeat(0, 2, unit()), true}, {b, solid('a', 1, 2, 1), false}, {b, turn(2, solid('a', 1, 2, 1)), true},
		{b, solid('a', 3, 1, 1), false}, {solid('a', 3, 1, 1), b, false}, {row("ab"), flip(0, row("ba")), true}, {row("ab"), row("ba"), false},
		{row("aab"), row("aac"), false}, {row("baa"), row("caa"), false}, {stack(2, b, c), stack(2, c, b), false}, {stack(1, b, c), stack(2, b, c), false},
		{solid('a', 20, 20, 20), solid('a', 20, 20, 20), true}, {solid('a', 2, 3, 4), solid('a', 4, 3, 2), false},
	} {
		if ok, e := slab.Equal(d.b, d.c); ok != d.want || e != api.OK {
			t.Errorf("Equal(%v, %v): %v, %d", d.b, d.c, ok, e)
		}
	}
	misfit := slice(0, 1, 1, unit())
	for _, d := range []struct {
		b, c api.Block
		want api.Errno
	}{
		{b, misfit, api.ErrExtent}, {misfit, b, api.ErrExtent}, {misfit, api.Block{}, api.ErrExtent}, {api.Block{}, misfit, api.ErrBlock},
		{misfit, tower(17), api.ErrExtent}, {tower(17), misfit, api.ErrLimit}, {solid('a', 201, 1, 1), api.Block{}, api.ErrLimit},
	} {
		if ok, e := slab.Equal(d.b, d.c); ok || e != d.want {
			t.Errorf("Equal(%v, %v): %v, %d, want %d", d.b, d.c, ok, e, d.want)
		}
	}
}

func TestMirrored(t *testing.T) {
	for _, c := range []struct {
		b    api.Block
		want [3]bool
	}{
		{unit(), [3]bool{true, true, true}},
		{solid('a', 2, 3, 4), [3]bool{true, true, true}},
		{row("ab"), [3]bool{false, true, true}},
		{row("aba"), [3]bool{true, true, true}},
		{row("abba"), [3]bool{true, true, true}},
		{row("abca"), [3]bool{false, true, true}},
		{turn(2, row("ab")), [3]bool{true, false, true}},
		{turn(1, row("ab")), [3]bool{true, true, false}},
		{stack(1, row("ab"), row("ba")), [3]bool{false, false, true}},
		{stack(1, row("ab"), row("ab")), [3]bool{false, true, true}},
		{flips(14, row("ab")), [3]bool{false, true, true}}, // a mirror of it would have 17 levels
	} {
		for axis, want := range c.want {
			if ok, e := slab.Mirrored(c.b, axis); ok != want || e != api.OK {
				t.Errorf("Mirrored(%v, %d): %v, %d", c.b, axis, ok, e)
			}
		}
	}
	for _, axis := range []int{-1, 3, math.MaxInt, math.MinInt} {
		if ok, e := slab.Mirrored(unit(), axis); ok || e != api.ErrArg {
			t.Errorf("Mirrored with %d: %v, %d", axis, ok, e)
		}
	}
}

// P2.5: Equal and Mirrored of many recipes.
func TestEqualOfRecipes(t *testing.T) {
	list := recipes(t, 150)
	r := rand.New(rand.NewPCG(7, 8))
	for i, b := range list {
		g := gridOf(b)
		c := with(b, func(c *api.Block) {
			if d := someBlock(r, c); d.Op == api.BlockSolid {
				d.Colour = "abcdefghi"[r.IntN(9)]
			}
		})
		for _, c := range []api.Block{b, c, list[(i+1)%len(list)], turn(2, b)} {
			want := same(g, gridOf(c))
			if ok, e := slab.Equal(b, c); levelOf(c) <= 16 && (ok != want || e != api.OK) {
				t.Fatalf("Equal(%v, %v): %v, %d", b, c, ok, e)
			}
		}
		for axis := range 3 {
			if ok, e := slab.Mirrored(b, axis); ok != same(g, gridOf(flip(axis, b))) || e != api.OK {
				t.Fatalf("Mirrored(%v, %d): %v, %d", b, axis, ok, e)
			}
		}
	}
}

func same(g, h grid) bool {
	for cell, c := range g.cells {
		if h.cells[cell] != c {
			return false
		}
	}
	return g.extent == h.extent
}

func only(colour byte, count int) [9]int {
	var v [9]int
	v[colour-'a'] = count
	return v
}

// P2.6: what was taken, and Example 2.
func TestSheets(t *testing.T) {
	for _, c := range []struct {
		b    api.Block
		want [9]int
	}{
		{solid('i', 2, 3, 4), only('i', 24)},
		{slice(0, 0, 1, solid('a', 3, 1, 1)), only('a', 3)},
		{slice(0, 0, 1, row("abc")), [9]int{1, 1, 1}},
		{repeat(1, 5, slice(0, 0, 1, solid('b', 3, 1, 1))), only('b', 15)},
		{slice(1, 0, 1, repeat(1, 5, slice(0, 0, 1, solid('b', 3, 1, 1)))), only('b', 15)},
		{stack(0, row("ab"), repeat(0, 3, row("bc"))), [9]int{1, 4, 3}},
		{turn(1, flip(2, row("aab"))), [9]int{2, 1}},
	} {
		if s, e := slab.Sheets(c.b); s != c.want || e != api.OK {
			t.Errorf("Sheets(%v): %v, %d", c.b, s, e)
		}
	}
	if v := must[[9]int](t)(slab.Volumes(slice(0, 0, 1, solid('a', 3, 1, 1)))); v != only('a', 1) {
		t.Errorf("Volumes: %v", v)
	}
}

// cutRepeat repeats so many times and keeps one copy.
func cutRepeat(count int, p api.Block) api.Block { return slice(0, 0, 1, repeat(0, count, p)) }

// P2.6: up to 2^40 of each colour.
func TestSheetsLimit(t *testing.T) {
	cut := func(c byte) api.Block { return slice(0, 0, 1, solid(c, 128, 32, 1)) } // 2^12
	power := func(c byte) api.Block { return cutRepeat(128, cutRepeat(128, cutRepeat(128, cutRepeat(128, cut(c))))) }
	half := func(c byte) api.Block { return cutRepeat(64, cutRepeat(128, cutRepeat(128, cutRepeat(128, cut(c))))) }
	many := cutRepeat(200, cutRepeat(200, cutRepeat(200, cutRepeat(200, cutRepeat(200, cutRepeat(200, slice(0, 0, 1, solid('a', 200, 40, 1))))))))
	for name, c := range map[string]struct {
		b    api.Block
		want [9]int
		err  api.Errno
	}{
		"2^40":                    {power('a'), only('a', 1<<40), api.OK},
		"2^40 of the last colour": {power('i'), only('i', 1<<40), api.OK},
		"2^40 twice":              {stack(0, power('a'), power('b')), [9]int{1 << 40, 1 << 40}, api.OK},
		"2^40 from halves":        {stack(0, half('c'), half('c')), only('c', 1<<40), api.OK},
		"and one more":            {stack(0, power('a'), solid('a', 1, 32, 1)), [9]int{}, api.ErrLimit},
		"one more of the last":    {stack(2, slice(1, 0, 1, power('i')), solid('i', 1, 1, 1)), [9]int{}, api.ErrLimit},
		"one more of another":     {stack(2, slice(1, 0, 1, power('i')), solid('h', 1, 1, 1)), [9]int{7: 1, 8: 1 << 40}, api.OK},
		"2^41":                    {repeat(0, 2, power('a')), [9]int{}, api.ErrLimit},
		"129 times":               {repeat(0, 129, half('a')), [9]int{}, api.ErrLimit},
		"no cell":                 {solid('a', 1, 1, 0), [9]int{}, api.ErrBlock},
		"far beyond":              {many, [9]int{}, api.ErrLimit},
		"beyond 64 bits":          {cutRepeat(200, many), [9]int{}, api.ErrLimit},
		"and a misfit":            {stack(0, many, unit()), [9]int{}, api.ErrExtent},
	} {
		if s, e := slab.Sheets(c.b); s != c.want || e != c.err {
			t.Errorf("%s: %v, %d, want %v, %d", name, s, e, c.want, c.err)
		}
	}
}

func takenOf(b api.Block) [9]int {
	if b.Op == api.BlockSolid {
		return only(b.Colour, product(b.N))
	}
	var sum [9]int
	for _, p := range b.Parts {
		for i, n := range takenOf(p) {
			sum[i] += n
		}
	}
	for i := range sum {
		if b.Op == api.BlockRepeat {
			sum[i] *= b.N[0]
		}
	}
	return sum
}

// P2.6, P2.9: what was taken, for many recipes.
func TestSheetsOfRecipes(t *testing.T) {
	for _, b := range recipes(t, 1000) {
		s, v := must[[9]int](t)(slab.Sheets(b)), must[[9]int](t)(slab.Volumes(b))
		if s != takenOf(b) {
			t.Fatalf("Sheets(%v): %v", b, s)
		}
		for i := range s {
			if s[i] < v[i] || s[i] != v[i] && !hasSlice(b) {
				t.Fatalf("%v: Sheets %v, Volumes %v", b, s, v)
			}
		}
	}
}

func hasSlice(b api.Block) bool {
	for _, p := range b.Parts {
		if hasSlice(p) {
			return true
		}
	}
	return b.Op == api.BlockSlice
}
