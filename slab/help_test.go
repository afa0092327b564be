package slab_test

import (
	"math/rand/v2"
	"slices"
	"testing"

	"pantoscope/api"
	"pantoscope/slab"
)

func solid(colour byte, x, y, z int) api.Block {
	return api.Block{Op: api.BlockSolid, Colour: colour, N: [3]int{x, y, z}}
}

func stack(axis int, p, q api.Block) api.Block {
	return api.Block{Op: api.BlockStack, Axis: axis, Parts: []api.Block{p, q}}
}

func turn(axis int, p api.Block) api.Block {
	return api.Block{Op: api.BlockTurn, Axis: axis, Parts: []api.Block{p}}
}

func slice(axis, from, count int, p api.Block) api.Block {
	return api.Block{Op: api.BlockSlice, Axis: axis, N: [3]int{from, count}, Parts: []api.Block{p}}
}

func flip(axis int, p api.Block) api.Block {
	return api.Block{Op: api.BlockFlip, Axis: axis, Parts: []api.Block{p}}
}

func repeat(axis, count int, p api.Block) api.Block {
	return api.Block{Op: api.BlockRepeat, Axis: axis, N: [3]int{count}, Parts: []api.Block{p}}
}

// flips is p in so many mirrors.
func flips(count int, p api.Block) api.Block {
	for range count {
		p = flip(0, p)
	}
	return p
}

// row is a row of cells along x, one stacked on the other.
func row(colours string) api.Block {
	b := solid(colours[0], 1, 1, 1)
	for i := 1; i < len(colours); i++ {
		b = stack(0, b, solid(colours[i], 1, 1, 1))
	}
	return b
}

// with is b with something changed.
func with(b api.Block, change func(b *api.Block)) api.Block {
	b = copied(b)
	change(&b)
	return b
}

func copied(b api.Block) api.Block {
	b.Parts = slices.Clone(b.Parts)
	for i := range b.Parts {
		b.Parts[i] = copied(b.Parts[i])
	}
	return b
}

// equal tells whether two recipes are equal; an empty list and a nil list are.
func equal(b, c api.Block) bool {
	return b.Op == c.Op && b.Axis == c.Axis && b.Colour == c.Colour && b.N == c.N && slices.EqualFunc(b.Parts, c.Parts, equal)
}

// grid is a block cell by cell.
type grid struct {
	extent [3]int
	cells  map[[3]int]byte
}

func newGrid(x, y, z int) grid {
	return grid{[3]int{x, y, z}, map[[3]int]byte{}}
}

// fill gives each cell of g the colour that is asked for.
func (g grid) fill(colour func(i, j, k int) byte) grid {
	for i := range g.extent[0] {
		for j := range g.extent[1] {
			for k := range g.extent[2] {
				g.cells[[3]int{i, j, k}] = colour(i, j, k)
			}
		}
	}
	return g
}

// grown is g with another one laid beyond it.
func (g grid) grown(axis int, h grid) grid {
	out := newGrid(g.extent[0], g.extent[1], g.extent[2])
	out.extent[axis] += h.extent[axis]
	for cell, c := range g.cells {
		out.cells[cell] = c
	}
	for cell, c := range h.cells {
		cell[axis] += g.extent[axis]
		out.cells[cell] = c
	}
	return out
}

// gridOf makes a valid recipe's block as the chapter's terms say.
func gridOf(b api.Block) grid {
	if b.Op == api.BlockSolid {
		return newGrid(b.N[0], b.N[1], b.N[2]).fill(func(_, _, _ int) byte { return b.Colour })
	}
	p := gridOf(b.Parts[0])
	switch b.Op {
	case api.BlockStack:
		return p.grown(b.Axis, gridOf(b.Parts[1]))
	case api.BlockTurn:
		return turnedGrid(b.Axis, p)
	case api.BlockSlice:
		return slicedGrid(b.Axis, b.N[0], b.N[1], p)
	case api.BlockFlip:
		out := newGrid(p.extent[0], p.extent[1], p.extent[2])
		for cell, c := range p.cells {
			cell[b.Axis] = p.extent[b.Axis] - 1 - cell[b.Axis]
			out.cells[cell] = c
		}
		return out
	}
	out := p
	for range b.N[0] - 1 {
		out = out.grown(b.Axis, p)
	}
	return out
}

func turnedGrid(axis int, p grid) grid {
	x, y, z := p.extent[0], p.extent[1], p.extent[2]
	switch axis {
	case 0:
		return newGrid(x, z, y).fill(func(i, j, k int) byte { return p.cells[[3]int{i, k, z - 1 - j}] })
	case 1:
		return newGrid(z, y, x).fill(func(i, j, k int) byte { return p.cells[[3]int{x - 1 - k, j, i}] })
	}
	return newGrid(y, x, z).fill(func(i, j, k int) byte { return p.cells[[3]int{j, y - 1 - i, k}] })
}

func slicedGrid(axis, from, count int, p grid) grid {
	out := newGrid(p.extent[0], p.extent[1], p.extent[2])
	out.extent[axis] = count
	for cell, c := range p.cells {
		cell[axis] -= from
		if 0 <= cell[axis] && cell[axis] < count {
			out.cells[cell] = c
		}
	}
	return out
}

// random makes a recipe of at most so many levels at random; it may be invalid for its extents alone.
func random(r *rand.Rand, levels int) api.Block {
	if levels <= 1 || r.IntN(8) == 0 {
		return solid("abcdefghi"[r.IntN(9)], 1+r.IntN(4), 1+r.IntN(4), 1+r.IntN(4))
	}
	p := random(r, levels-1)
	axis := r.IntN(3)
	extent, _ := slab.Extent(p)
	switch r.IntN(8) {
	case 0, 1, 2:
		return stack(axis, p, beyond(r, levels-1, axis, p, extent))
	case 3:
		return turn(axis, p)
	case 4:
		from := r.IntN(max(1, extent[axis]))
		return slice(axis, from, 1+r.IntN(max(1, extent[axis]-from)), p)
	case 5:
		return flip(axis, p)
	case 6:
		return repeat(axis, 1+r.IntN(3), p)
	}
	return stack(axis, beyond(r, levels-1, axis, p, extent), p)
}

// beyond is something that can be stacked on p.
func beyond(r *rand.Rand, levels, axis int, p api.Block, extent [3]int) api.Block {
	q := random(r, min(levels, 5))
	if e, _ := slab.Extent(q); with1(e, axis) == with1(extent, axis) {
		return q
	}
	if levels > 8 {
		return turn(axis, turn(axis, p))
	}
	extent[axis] = 1 + r.IntN(3)
	return solid("abcdefghi"[r.IntN(9)], extent[0], extent[1], extent[2])
}

func with1(extent [3]int, axis int) [3]int {
	extent[axis] = 1
	return extent
}

// recipes are n valid recipes, small ones and ones of up to MaxDeep levels.
func recipes(t *testing.T, n int) []api.Block {
	t.Helper()
	r := rand.New(rand.NewPCG(3, 4))
	var list []api.Block
	for len(list) < n {
		b := random(r, 1+r.IntN(api.MaxDeep))
		if slab.Check(b) == api.OK {
			list = append(list, b)
		}
	}
	return list
}

// must stops a test if a call that has to succeed does not.
func must[T any](t *testing.T) func(T, api.Errno) T {
	return func(v T, e api.Errno) T {
		t.Helper()
		if e != api.OK {
			t.Fatalf("error %d", e)
		}
		return v
	}
}

func product(extent [3]int) int { return extent[0] * extent[1] * extent[2] }

func total(volumes [9]int) int {
	sum := 0
	for _, n := range volumes {
		sum += n
	}
	return sum
}
