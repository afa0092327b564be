package slab

import (
	"iter"

	"pantoscope/api"
)

// maxTaken is how many cells of a colour may be taken for a block.
const maxTaken = 1 << 40

// block is a block that is made. Colours are numbers here; cells are within the block.
type block interface {
	extents() [3]int
	colour(cell [3]int) int
	taken() [9]int
}

// shape is what all kinds of blocks have in common.
type shape struct {
	extent [3]int
}

func (s shape) extents() [3]int {
	return s.extent
}

// work is what the kinds have in common that are made from a part, along or about an axis.
type work struct {
	shape
	axis int
	part block
}

func (w work) taken() [9]int {
	return w.part.taken()
}

type solid struct {
	shape
	number int
}

func (s solid) colour([3]int) int {
	return s.number
}

func (s solid) taken() [9]int {
	var taken [9]int
	taken[s.number] = product(s.extent)
	return taken
}

type stack struct {
	work
	beyond block
}

func (s stack) colour(cell [3]int) int {
	near := s.part.extents()[s.axis]
	if cell[s.axis] < near {
		return s.part.colour(cell)
	}
	cell[s.axis] -= near
	return s.beyond.colour(cell)
}

func (s stack) taken() [9]int {
	taken := s.part.taken()
	for i, n := range s.beyond.taken() {
		taken[i] = counted(taken[i] + n)
	}
	return taken
}

type turn struct {
	work
}

func (t turn) colour(cell [3]int) int {
	next, last := beside(t.axis)
	from := cell
	from[next] = cell[last]
	from[last] = t.part.extents()[last] - 1 - cell[next]
	return t.part.colour(from)
}

type slice struct {
	work
	from int
}

func (s slice) colour(cell [3]int) int {
	cell[s.axis] += s.from
	return s.part.colour(cell)
}

type flip struct {
	work
}

func (f flip) colour(cell [3]int) int {
	cell[f.axis] = f.extent[f.axis] - 1 - cell[f.axis]
	return f.part.colour(cell)
}

type repeat struct {
	work
	times int
}

func (r repeat) colour(cell [3]int) int {
	cell[r.axis] %= r.part.extents()[r.axis]
	return r.part.colour(cell)
}

func (r repeat) taken() [9]int {
	taken := r.part.taken()
	for i, n := range taken {
		taken[i] = counted(n * r.times)
	}
	return taken
}

// counted makes one number of all those above maxTaken: what is taken never becomes less again, and further on it might
// not fit into 64 bits.
func counted(n int) int {
	return min(n, maxTaken+1)
}

// beside are the two other axes, in the order in which a quarter turn exchanges them.
func beside(axis int) (next, last int) {
	return (axis + 1) % 3, (axis + 2) % 3
}

func product(extent [3]int) int {
	return extent[0] * extent[1] * extent[2]
}

// made makes the block of a recipe, or returns the recipe's error.
func made(b api.Block) (block, api.Errno) {
	if tooDeep(b.Parts, 2, map[list]int{}) {
		return nil, api.ErrLimit
	}
	if !sound(b) {
		return nil, api.ErrBlock
	}
	return build(b)
}

// build makes the parts of a recipe first, so that their errors come first.
func build(b api.Block) (block, api.Errno) {
	parts := make([]block, 0, len(b.Parts))
	for _, p := range b.Parts {
		part, err := build(p)
		if err != api.OK {
			return nil, err
		}
		parts = append(parts, part)
	}
	whole, ok := join(b, parts)
	if !ok {
		return nil, api.ErrExtent
	}
	if !fits(whole.extents()) {
		return nil, api.ErrLimit
	}
	return whole, api.OK
}

// join makes the block of a recipe from its parts; false if their extents do not let it.
func join(b api.Block, parts []block) (block, bool) {
	if b.Op == api.BlockSolid {
		number, ok := colourOf(b.Colour)
		return solid{shape{b.N}, number}, ok
	}
	w := reworked(parts[0], b.Axis)
	switch b.Op {
	case api.BlockStack:
		return stacked(w, parts[1])
	case api.BlockTurn:
		next, last := beside(b.Axis)
		w.extent[next], w.extent[last] = w.extent[last], w.extent[next]
		return turn{w}, true
	case api.BlockSlice:
		return sliced(w, b.N[0], b.N[1])
	case api.BlockFlip:
		return flip{w}, true
	default:
		w.extent[b.Axis] *= b.N[0]
		return repeat{w, b.N[0]}, true
	}
}

// reworked is a part that is to be worked on, with its extents for the present.
func reworked(part block, axis int) work {
	return work{shape{part.extents()}, axis, part}
}

func stacked(w work, beyond block) (block, bool) {
	extent := beyond.extents()
	w.extent[w.axis] += extent[w.axis]
	extent[w.axis] = w.extent[w.axis]
	return stack{w, beyond}, extent == w.extent
}

func sliced(w work, from, count int) (block, bool) {
	within := from+count <= w.extent[w.axis]
	w.extent[w.axis] = count
	return slice{w, from}, within
}

func fits(extent [3]int) bool {
	for _, n := range extent {
		if n > api.MaxEdge {
			return false
		}
	}
	return product(extent) <= api.MaxCells
}

func isCell(b block, cell [3]int) bool {
	for axis, n := range b.extents() {
		if cell[axis] < 0 || cell[axis] >= n {
			return false
		}
	}
	return true
}

// cells goes through the cells of a block.
func cells(b block) iter.Seq[[3]int] {
	extent := b.extents()
	return func(yield func([3]int) bool) {
		for i := range extent[0] {
			for j := range extent[1] {
				for k := range extent[2] {
					if !yield([3]int{i, j, k}) {
						return
					}
				}
			}
		}
	}
}

func same(b, c block) bool {
	if b.extents() != c.extents() {
		return false
	}
	for cell := range cells(b) {
		if b.colour(cell) != c.colour(cell) {
			return false
		}
	}
	return true
}
