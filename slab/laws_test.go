package slab_test

import (
	"math/rand/v2"
	"testing"

	"pantoscope/api"
	"pantoscope/slab"
)

// small are recipes with levels to spare, so that more can be made of them.
func small(t *testing.T, n int) []api.Block {
	t.Helper()
	var list []api.Block
	for _, b := range recipes(t, 2*n) {
		if levelOf(b) <= api.MaxDeep-6 {
			list = append(list, b)
		}
	}
	return list[:n]
}

// agree tells whether two recipes make one block. One that is too large is no matter here.
func agree(t *testing.T, b, c api.Block) bool {
	t.Helper()
	if slab.Check(b) == api.ErrLimit || slab.Check(c) == api.ErrLimit {
		return true
	}
	return must[bool](t)(slab.Equal(b, c))
}

// P2.9: volumes are added, kept and multiplied.
func TestVolumeLaws(t *testing.T) {
	checked := 0
	for i, b := range small(t, 300) {
		axis := i % 3
		v := must[[9]int](t)(slab.Volumes(b))
		if total(v) != product(must[[3]int](t)(slab.Extent(b))) {
			t.Fatalf("Volumes(%v): %v", b, v)
		}
		for _, kept := range []api.Block{turn(axis, b), flip(axis, b)} {
			if w := must[[9]int](t)(slab.Volumes(kept)); w != v {
				t.Fatalf("Volumes(%v): %v, want %v", kept, w, v)
			}
		}
		other := turn(axis, turn(axis, b))
		if w, e := slab.Volumes(stack(axis, b, solidBeside(t, b, axis))); e == api.OK {
			checked++
			extra := must[[9]int](t)(slab.Volumes(solidBeside(t, b, axis)))
			for j := range v {
				if w[j] != v[j]+extra[j] {
					t.Fatalf("Volumes of a stack with %v: %v", b, w)
				}
			}
		}
		if w, e := slab.Volumes(stack(axis, b, other)); e == api.OK && w != times(v, 2) {
			t.Fatalf("Volumes of a stack of %v: %v", b, w)
		}
		if w, e := slab.Volumes(repeat(axis, 3, b)); e == api.OK && w != times(v, 3) {
			t.Fatalf("Volumes of a repeat of %v: %v", b, w)
		}
	}
	if checked < 100 {
		t.Errorf("%d stacks", checked)
	}
}

func times(v [9]int, n int) [9]int {
	for i := range v {
		v[i] *= n
	}
	return v
}

func solidBeside(t *testing.T, b api.Block, axis int) api.Block {
	t.Helper()
	extent := must[[3]int](t)(slab.Extent(b))
	extent[axis] = 2
	return solid('e', extent[0], extent[1], extent[2])
}

// P2.10: turns, flips and repeats.
func TestAlgebra(t *testing.T) {
	for _, b := range small(t, 200) {
		for axis := range 3 {
			if !agree(t, turn(axis, turn(axis, turn(axis, turn(axis, b)))), b) {
				t.Fatalf("four turns about %d of %v", axis, b)
			}
			if !agree(t, flip(axis, flip(axis, b)), b) {
				t.Fatalf("two flips along %d of %v", axis, b)
			}
			if !agree(t, turn(axis, turn(axis, b)), flip((axis+1)%3, flip((axis+2)%3, b))) {
				t.Fatalf("half a turn about %d of %v", axis, b)
			}
			if !agree(t, repeat(axis, 3, b), stack(axis, stack(axis, b, b), b)) || !agree(t, repeat(axis, 1, b), b) {
				t.Fatalf("repeat along %d of %v", axis, b)
			}
		}
	}
}

// P2.10: slices and flips of stacks.
func TestAlgebraOfStacks(t *testing.T) {
	r := rand.New(rand.NewPCG(15, 16))
	for _, b := range small(t, 200) {
		for axis := range 3 {
			c := solidBeside(t, b, axis)
			if r.IntN(2) == 0 {
				c = turn(axis, turn(axis, b))
			}
			n, m := must[[3]int](t)(slab.Extent(b))[axis], must[[3]int](t)(slab.Extent(c))[axis]
			if !agree(t, slice(axis, 0, n, b), b) {
				t.Fatalf("slice of all along %d of %v", axis, b)
			}
			s := stack(axis, b, c)
			from, at := r.IntN(n), r.IntN(m)
			count, more := 1+r.IntN(n-from), 1+r.IntN(m-at)
			if !agree(t, slice(axis, from, count, s), slice(axis, from, count, b)) {
				t.Fatalf("slice of the first part, %d, %d, %d, of %v", axis, from, count, s)
			}
			if !agree(t, slice(axis, n+at, more, s), slice(axis, at, more, c)) {
				t.Fatalf("slice of the second part, %d, %d, %d, of %v", axis, at, more, s)
			}
			if !agree(t, flip(axis, s), stack(axis, flip(axis, c), flip(axis, b))) {
				t.Fatalf("flip along %d of %v", axis, s)
			}
		}
	}
}
