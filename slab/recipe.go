package slab

import "pantoscope/api"

const (
	axes      = "xyz"
	maxNumber = 999
)

// colours are the letters of the colours.
var colours = [9]byte{'a', 'b', 'c', 'd', 'e', 'f', 'g', 'h', 'i'}

// kind says what a recipe with one Op has: the word that begins its text, how many numbers, and how many parts.
type kind struct {
	word           string
	numbers, parts int
}

// kinds are those of the Ops from BlockSolid on.
var kinds = [6]kind{
	{"", 3, 0},
	{"stack", 0, 2},
	{"turn", 0, 1},
	{"slice", 2, 1},
	{"flip", 0, 1},
	{"repeat", 1, 1},
}

func isOp(op int) bool {
	return api.BlockSolid <= op && op <= api.BlockRepeat
}

func isAxis(axis int) bool {
	return 0 <= axis && axis < len(axes)
}

// kindOf is the kind of an Op.
func kindOf(op int) kind {
	return kinds[op-api.BlockSolid]
}

// colourOf is the number of the colour with a letter.
func colourOf(letter byte) (int, bool) {
	for i, c := range colours {
		if c == letter {
			return i, true
		}
	}
	return 0, false
}

// list tells lists of parts apart by where they lie: recipes may share parts, and a list may even lie in itself.
type list struct {
	first *api.Block
	count int
}

// tooDeep tells whether something in a list of parts is above MaxDeep, the recipe itself being at level 1. Lists that
// were seen at a level at least as great are not gone through again, or shared parts would take time for each way to
// them.
func tooDeep(parts []api.Block, level int, seen map[list]int) bool {
	if len(parts) == 0 {
		return false
	}
	if level > api.MaxDeep {
		return true
	}
	here := list{&parts[0], len(parts)}
	if seen[here] >= level {
		return false
	}
	for _, p := range parts {
		if tooDeep(p.Parts, level+1, seen) {
			return true
		}
	}
	seen[here] = level
	return false
}

// sound tells whether a recipe and its parts have no ErrBlock. It asks a recipe before its parts, so that it never goes
// through more than two of them.
func sound(b api.Block) bool {
	if !isOp(b.Op) || len(b.Parts) != kindOf(b.Op).parts || !soundLetters(b) || !soundNumbers(b) {
		return false
	}
	for _, p := range b.Parts {
		if !sound(p) {
			return false
		}
	}
	return true
}

// soundLetters tells whether a recipe has a colour or an axis, whichever it needs, and not the other one.
func soundLetters(b api.Block) bool {
	if b.Op != api.BlockSolid {
		return b.Colour == 0 && isAxis(b.Axis)
	}
	_, ok := colourOf(b.Colour)
	return ok && b.Axis == 0
}

func soundNumbers(b api.Block) bool {
	used := kindOf(b.Op).numbers
	for i, n := range b.N {
		if i >= used && n != 0 || i < used && (n < leastNumber(b.Op, i) || n > maxNumber) {
			return false
		}
	}
	return true
}

// leastNumber is 0 for the first cell of a slice alone: all other numbers count something.
func leastNumber(op, i int) int {
	if op == api.BlockSlice && i == 0 {
		return 0
	}
	return 1
}
