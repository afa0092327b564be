package slab_test

import (
	"math"
	"math/rand/v2"
	"testing"

	"pantoscope/api"
	"pantoscope/slab"
)

// tower is a valid recipe of so many levels.
func tower(levels int) api.Block { return flips(levels-1, solid('a', 1, 2, 3)) }

func unit() api.Block { return solid('a', 1, 1, 1) }

// P2.1, P2.2: what is valid, also at the borders.
func TestCheckOK(t *testing.T) {
	for name, b := range map[string]api.Block{
		"one cell":          unit(),
		"the last colour":   solid('i', 1, 1, 1),
		"an edge in x":      solid('a', api.MaxEdge, 1, 1),
		"an edge in y":      solid('a', 1, api.MaxEdge, 1),
		"an edge in z":      solid('a', 1, 1, api.MaxEdge),
		"cells":             solid('a', 20, 20, 20),
		"stacked edge":      stack(2, solid('a', 1, 1, 199), unit()),
		"stacked cells":     stack(1, solid('a', 200, 39, 1), solid('b', 200, 1, 1)),
		"repeated edge":     repeat(1, 200, unit()),
		"repeated cells":    repeat(0, 20, solid('a', 1, 20, 20)),
		"slice of all":      slice(0, 0, 5, solid('a', 5, 1, 1)),
		"slice of the end":  slice(2, 4, 1, solid('a', 1, 1, 5)),
		"slice of the last": slice(1, 199, 1, solid('a', 1, 200, 1)),
		"turned":            stack(0, turn(2, solid('a', 2, 1, 1)), solid('b', 3, 2, 1)),
		"repeat once":       repeat(2, 1, unit()),
		"levels":            tower(api.MaxDeep),
		"levels on the right": func() api.Block {
			b := unit()
			for range api.MaxDeep - 1 {
				b = stack(0, unit(), b)
			}
			return b
		}(),
		"an empty list": {Op: api.BlockSolid, Colour: 'a', N: [3]int{1, 1, 1}, Parts: []api.Block{}},
	} {
		if e := slab.Check(b); e != api.OK {
			t.Errorf("%s: %d", name, e)
		}
	}
}

// bad are recipes with an ErrBlock and nothing else.
func bad() map[string]api.Block {
	list := map[string]api.Block{
		"nothing":        {},
		"two parts":      with(stack(0, unit(), unit()), func(b *api.Block) { b.Op = api.BlockTurn }),
		"three parts":    with(stack(0, unit(), unit()), func(b *api.Block) { b.Parts = append(b.Parts, unit()) }),
		"one part":       with(stack(0, unit(), unit()), func(b *api.Block) { b.Parts = b.Parts[:1] }),
		"part of solid":  with(unit(), func(b *api.Block) { b.Parts = []api.Block{unit()} }),
		"axis of solid":  with(unit(), func(b *api.Block) { b.Axis = 1 }),
		"no slice":       slice(0, 0, 0, unit()),
		"slice below":    slice(0, -1, 1, solid('a', 2, 1, 1)),
		"slice beyond":   slice(0, 1000, 1, unit()),
		"slice too long": slice(0, 0, 1000, unit()),
		"slice with N2":  with(slice(0, 0, 1, unit()), func(b *api.Block) { b.N[2] = 1 }),
		"no repeat":      repeat(0, 0, unit()),
		"repeat below":   repeat(0, -1, unit()),
		"repeat beyond":  repeat(0, 1000, unit()),
		"repeat with N1": with(repeat(0, 1, unit()), func(b *api.Block) { b.N[1] = 1 }),
		"repeat with N2": with(repeat(0, 1, unit()), func(b *api.Block) { b.N[2] = -1 }),
		"repeat, least":  repeat(0, math.MinInt, unit()),
		"slice, most":    slice(0, math.MaxInt, math.MaxInt, unit()),
	}
	for _, op := range []int{-1, 0, 7, 8, math.MaxInt, math.MinInt} {
		for parts := range 3 {
			list["op "+string(rune('0'+op&7))+" with "+string(rune('0'+parts))] = api.Block{Op: op, Parts: []api.Block{unit(), unit()}[:parts]}
		}
	}
	for _, colour := range []byte{0, 1, '`', 'j', 'A', 'x', 255} {
		list["colour "+string([]byte{colour})] = solid(colour, 1, 1, 1)
	}
	for axis := range 3 {
		for name, n := range map[string]int{"0": 0, "-1": -1, "1000": 1000, "most": math.MaxInt, "least": math.MinInt} {
			list["extent "+name+" in "+"xyz"[axis:axis+1]] = with(unit(), func(b *api.Block) { b.N[axis] = n })
		}
	}
	for op, b := range map[string]api.Block{"stack": stack(0, unit(), unit()), "turn": turn(0, unit()), "slice": slice(0, 0, 1, unit()), "flip": flip(0, unit()), "repeat": repeat(0, 1, unit())} {
		list["axis -1 of "+op] = with(b, func(b *api.Block) { b.Axis = -1 })
		list["axis 3 of "+op] = with(b, func(b *api.Block) { b.Axis = 3 })
		list["axis beyond of "+op] = with(b, func(b *api.Block) { b.Axis = math.MaxInt })
		list["colour of "+op] = with(b, func(b *api.Block) { b.Colour = 'a' })
		list["no parts of "+op] = with(b, func(b *api.Block) { b.Parts = nil })
		if op == "stack" || op == "turn" || op == "flip" {
			for i := range 3 {
				list["number of "+op+" in "+"012"[i:i+1]] = with(b, func(b *api.Block) { b.N[i] = 1 })
			}
		}
	}
	return list
}

// P2.1: ErrBlock, at the top and further down.
func TestCheckErrBlock(t *testing.T) {
	for name, b := range bad() {
		for where, c := range map[string]api.Block{
			"top": b, "first": stack(0, b, unit()), "second": stack(0, unit(), b), "deep": flips(10, stack(1, unit(), turn(0, b))),
		} {
			if e := slab.Check(c); e != api.ErrBlock {
				t.Errorf("%s, %s: %d", name, where, e)
			}
		}
	}
}

// misfits are recipes with an ErrExtent and nothing else.
func misfits() map[string]api.Block {
	return map[string]api.Block{
		"stack x, y":     stack(0, solid('a', 1, 2, 1), solid('a', 1, 1, 1)),
		"stack x, z":     stack(0, solid('a', 1, 1, 2), solid('a', 1, 1, 1)),
		"stack y, x":     stack(1, solid('a', 2, 1, 1), solid('a', 1, 1, 1)),
		"stack y, z":     stack(1, solid('a', 1, 1, 1), solid('a', 1, 1, 2)),
		"stack z, x":     stack(2, solid('a', 1, 1, 1), solid('a', 2, 1, 1)),
		"stack z, y":     stack(2, solid('a', 1, 2, 1), solid('a', 1, 1, 1)),
		"stack, turned":  stack(0, turn(0, solid('a', 1, 2, 1)), solid('a', 1, 2, 1)),
		"slice one more": slice(0, 0, 6, solid('a', 5, 9, 9)),
		"slice beyond":   slice(1, 5, 1, solid('a', 9, 5, 9)),
		"slice past":     slice(2, 999, 999, solid('a', 9, 9, 5)),
	}
}

// excesses are recipes with an ErrLimit of their extents and nothing else.
func excesses() map[string]api.Block {
	return map[string]api.Block{
		"edge x":         solid('a', 201, 1, 1),
		"edge y":         solid('a', 1, 201, 1),
		"edge z":         solid('a', 1, 1, 201),
		"999":            solid('a', 999, 1, 1),
		"999 three":      solid('a', 999, 999, 999),
		"cells":          solid('a', 20, 20, 21),
		"one cell more":  solid('a', 9, 7, 127), // 8001
		"stacked edge":   stack(0, solid('a', 200, 1, 1), unit()),
		"stacked cells":  stack(2, solid('a', 80, 100, 1), solid('a', 80, 100, 1)),
		"repeated edge":  repeat(2, 201, unit()),
		"repeated cells": repeat(0, 21, solid('a', 1, 20, 20)),
		"repeat 999":     repeat(1, 999, solid('a', 1, 200, 40)),
		"cut off again":  slice(0, 0, 1, repeat(0, 201, unit())),
		"on the way":     flip(1, slice(0, 0, 1, solid('a', 200, 40, 2))),
	}
}

// P2.1: ErrExtent and the second ErrLimit, at the top and further down.
func TestCheckExtents(t *testing.T) {
	for err, list := range map[api.Errno]map[string]api.Block{api.ErrExtent: misfits(), api.ErrLimit: excesses()} {
		for name, b := range list {
			for where, c := range map[string]api.Block{
				"top": b, "first": stack(0, b, unit()), "second": stack(0, unit(), b), "deep": flips(9, turn(1, b)), "sliced": slice(0, 0, 1, b),
			} {
				if e := slab.Check(c); e != err {
					t.Errorf("%s, %s: %d, want %d", name, where, e, err)
				}
			}
		}
	}
}

// P2.1: two errors at once.
func TestOrderOfErrors(t *testing.T) {
	noOp, misfit, excess := api.Block{}, stack(0, unit(), solid('a', 1, 2, 1)), solid('a', 201, 1, 1)
	for name, c := range map[string]struct {
		b   api.Block
		err api.Errno
	}{
		"one level more":                {tower(17), api.ErrLimit},
		"many levels more":              {tower(40), api.ErrLimit},
		"a level, and no op on top":     {api.Block{Parts: []api.Block{tower(16)}}, api.ErrLimit},
		"a level, and no op below":      {flips(16, noOp), api.ErrLimit},
		"a level, and no op beside":     {stack(0, noOp, tower(16)), api.ErrLimit},
		"a level in a third part":       {api.Block{Op: api.BlockStack, Parts: []api.Block{unit(), unit(), tower(16)}}, api.ErrLimit},
		"a level below a solid":         {with(unit(), func(b *api.Block) { b.Parts = []api.Block{tower(16)} }), api.ErrLimit},
		"a level, and a misfit":         {stack(0, misfit, tower(16)), api.ErrLimit},
		"no level, and no op":           {flips(15, noOp), api.ErrBlock},
		"no op behind a misfit":         {stack(0, misfit, noOp), api.ErrBlock},
		"no op behind an excess":        {stack(0, excess, noOp), api.ErrBlock},
		"a wrong axis on a misfit":      {with(misfit, func(b *api.Block) { b.Axis = 3 }), api.ErrBlock},
		"a wrong number and an excess":  {solid('a', 201, 1, 1000), api.ErrBlock},
		"a misfit in front":             {stack(0, misfit, excess), api.ErrExtent},
		"an excess in front":            {stack(0, excess, misfit), api.ErrLimit},
		"a misfit within an excess":     {repeat(0, 201, misfit), api.ErrExtent},
		"an excess within a misfit":     {slice(0, 300, 1, excess), api.ErrLimit},
		"a misfit that is an excess":    {stack(0, solid('a', 200, 1, 1), solid('a', 1, 2, 1)), api.ErrExtent},
		"a misfit of cells":             {stack(0, solid('a', 80, 100, 1), solid('a', 80, 99, 1)), api.ErrExtent},
		"a slice that is an excess":     {slice(0, 0, 201, unit()), api.ErrExtent},
		"parts that do not fit, second": {stack(0, solid('a', 1, 2, 1), excess), api.ErrLimit},
		"deeper, but behind":            {stack(0, excess, flips(9, misfit)), api.ErrLimit},
		"deeper, and in front":          {stack(0, flips(9, excess), misfit), api.ErrLimit},
		"deeper misfit, and in front":   {stack(0, flips(9, misfit), excess), api.ErrExtent},
	} {
		if e := slab.Check(c.b); e != c.err {
			t.Errorf("%s: %d, want %d", name, e, c.err)
		}
	}
}

func levelOf(b api.Block) int {
	most := 0
	for _, p := range b.Parts {
		most = max(most, levelOf(p))
	}
	return most + 1
}

// hasErrBlock is asked of one block alone.
func hasErrBlock(b api.Block) bool {
	within := func(i, low int) bool { return low <= b.N[i] && b.N[i] <= 999 }
	if b.Op == api.BlockSolid {
		return b.Axis != 0 || b.Colour < 'a' || b.Colour > 'i' || len(b.Parts) != 0 || !within(0, 1) || !within(1, 1) || !within(2, 1)
	}
	if b.Axis < 0 || b.Axis > 2 || b.Colour != 0 {
		return true
	}
	switch b.Op {
	case api.BlockStack:
		return b.N != [3]int{} || len(b.Parts) != 2
	case api.BlockTurn, api.BlockFlip:
		return b.N != [3]int{} || len(b.Parts) != 1
	case api.BlockSlice:
		return !within(0, 0) || !within(1, 1) || b.N[2] != 0 || len(b.Parts) != 1
	case api.BlockRepeat:
		return !within(0, 1) || b.N[1] != 0 || b.N[2] != 0 || len(b.Parts) != 1
	}
	return true
}

func anyErrBlock(b api.Block) bool {
	for _, p := range b.Parts {
		if anyErrBlock(p) {
			return true
		}
	}
	return hasErrBlock(b)
}

// extentOf is the extents of a block or the first error of them.
func extentOf(b api.Block) ([3]int, api.Errno) {
	var parts [][3]int
	for _, p := range b.Parts {
		extent, e := extentOf(p)
		if e != api.OK {
			return extent, e
		}
		parts = append(parts, extent)
	}
	e, ok := b.N, true
	if len(parts) > 0 {
		e = parts[0]
	}
	switch b.Op {
	case api.BlockStack:
		ok = with1(e, b.Axis) == with1(parts[1], b.Axis)
		e[b.Axis] += parts[1][b.Axis]
	case api.BlockTurn:
		e = [3][3]int{{e[0], e[2], e[1]}, {e[2], e[1], e[0]}, {e[1], e[0], e[2]}}[b.Axis]
	case api.BlockSlice:
		ok = b.N[0]+b.N[1] <= e[b.Axis]
		e[b.Axis] = b.N[1]
	case api.BlockRepeat:
		e[b.Axis] *= b.N[0]
	}
	if !ok {
		return e, api.ErrExtent
	}
	if max(e[0], e[1], e[2]) > 200 || product(e) > 8000 {
		return e, api.ErrLimit
	}
	return e, api.OK
}

// errorOf is the error that P2.1 asks for.
func errorOf(b api.Block) api.Errno {
	if levelOf(b) > 16 {
		return api.ErrLimit
	}
	if anyErrBlock(b) {
		return api.ErrBlock
	}
	_, e := extentOf(b)
	return e
}

// someBlock is a block of b, chosen at random.
func someBlock(r *rand.Rand, b *api.Block) *api.Block {
	for len(b.Parts) > 0 && r.IntN(4) > 0 {
		b = &b.Parts[r.IntN(len(b.Parts))]
	}
	return b
}

func spoil(r *rand.Rand, b *api.Block) {
	values := []int{-1, 0, 1, 2, 3, 5, 40, 200, 201, 999, 1000}
	switch c := someBlock(r, b); r.IntN(12) {
	case 0:
		c.Op = r.IntN(9) - 1
	case 1:
		c.Axis = r.IntN(5) - 1
	case 2:
		c.Colour = []byte{0, '`', 'a', 'i', 'j'}[r.IntN(5)]
	case 3, 4:
		c.Parts = append(c.Parts, random(r, 3))
	case 5:
		c.Parts = nil
	case 6:
		*c = flips(r.IntN(12), *c)
	default:
		c.N[r.IntN(3)] = values[r.IntN(len(values))]
	}
}

// P2.1, P2.2: the error of recipes with some faults.
func TestCheckSpoiled(t *testing.T) {
	r := rand.New(rand.NewPCG(5, 6))
	seen := map[api.Errno]int{}
	for _, b := range recipes(t, 3000) {
		if e := slab.Check(b); e != errorOf(b) {
			t.Fatalf("%v: %d, want %d", b, e, errorOf(b))
		}
		c := copied(b)
		for range 1 + r.IntN(3) {
			spoil(r, &c)
		}
		if e := slab.Check(c); e != errorOf(c) {
			t.Fatalf("%v: %d, want %d", c, e, errorOf(c))
		}
		seen[errorOf(c)]++
	}
	for _, e := range []api.Errno{api.OK, api.ErrLimit, api.ErrBlock, api.ErrExtent} {
		if seen[e] < 50 {
			t.Errorf("error %d was asked for %d times", e, seen[e])
		}
	}
}
