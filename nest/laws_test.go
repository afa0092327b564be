package nest_test

import (
	"math/rand/v2"
	"slices"
	"testing"

	"pantoscope/api"
	"pantoscope/nest"
	"pantoscope/outline"
)

// P7.7: Apart does not depend on the order, nor on where both outlines lie, nor on how they are turned.
func TestApartOfBoth(t *testing.T) {
	r := rand.New(rand.NewPCG(13, 14))
	for range 5000 {
		most := []int{4, 20, 200}[r.IntN(3)]
		o, p := randomOutline(r, most), moved(randomOutline(r, most), r.IntN(3*most), r.IntN(3*most))
		dx, dy, gap := r.IntN(8001)-4000, r.IntN(8001)-4000, r.IntN(most)
		want := must[bool](t)(nest.Apart(o, p, gap))
		for i, pair := range [][2][]api.XY{
			{p, o}, {moved(o, dx, dy), moved(p, dx, dy)}, {turned(o), turned(p)},
			{rolled(o, 1), rolled(p, 2)}, {must[[]api.XY](t)(outline.Mirror(o)), must[[]api.XY](t)(outline.Mirror(p))},
		} {
			if is, e := nest.Apart(pair[0], pair[1], gap); is != want || e != api.OK {
				t.Fatalf("Apart(%v, %v, %d): %v, but %d: %v, %d", o, p, gap, want, i, is, e)
			}
		}
	}
}

// P7.7: outlines that are apart by a gap are so by a lesser one.
func TestLesserGaps(t *testing.T) {
	r := rand.New(rand.NewPCG(15, 16))
	for range 400 {
		o, p := randomOutline(r, 20), moved(randomOutline(r, 20), r.IntN(60), r.IntN(60))
		before := true
		for gap := range 60 {
			is := must[bool](t)(nest.Apart(o, p, gap))
			if is && !before {
				t.Fatalf("%v and %v are %d apart, but not %d", o, p, gap, gap-1)
			}
			before = is
		}
	}
}

// P7.7: two outlines are 0 apart if, and only if, no place is inside both: then (0, 0) is not inside the outline of the
// differences of their places.
func TestApartAndInside(t *testing.T) {
	r := rand.New(rand.NewPCG(17, 18))
	count := map[bool]int{}
	for range 10000 {
		most := []int{2, 6, 40}[r.IntN(3)]
		o, p := randomOutline(r, most), moved(randomOutline(r, most), r.IntN(3*most)-most, r.IntN(3*most)-most)
		is := must[bool](t)(nest.Apart(o, p, 0))
		count[is]++
		if differences := must[[]api.XY](t)(outline.Sum(o, turned(p))); is == isInside(differences, api.XY{}) {
			t.Fatalf("Apart(%v, %v, 0): %v", o, p, is)
		}
		inside := slices.ContainsFunc(o, func(c api.XY) bool { return isInside(p, c) }) || slices.ContainsFunc(p, func(c api.XY) bool { return isInside(o, c) })
		if is && inside {
			t.Fatalf("%v and %v are apart, but not their insides", o, p)
		}
	}
	if min(count[true], count[false]) < 2000 {
		t.Errorf("%v", count)
	}
}

// P7.8: Check accepts what Rows returns, which is no more than Bound.
func TestRowsAreRight(t *testing.T) {
	r := rand.New(rand.NewPCG(19, 20))
	for range 600 {
		b, list := randomBoard(r, 120), randomParts(r, 120)
		part := r.IntN(len(list))
		l := must[[]api.Place](t)(nest.Rows(b, list, part))
		if index, err := nest.Check(b, list, l); index != 0 || err != api.OK {
			t.Fatalf("Check(%v, %v, %v): %d, %d", b, list, l, index, err)
		}
		if bound := must[int](t)(nest.Bound(b, list, part)); len(l) > bound {
			t.Fatalf("%v, %v: %d places, but Bound: %d", b, list, len(l), bound)
		}
	}
}

// P7.8: a right layout stays right without a place, in any order, and with one more place that is free.
func TestRightStaysRight(t *testing.T) {
	r := rand.New(rand.NewPCG(21, 22))
	added := 0
	for range 800 {
		b, list := randomBoard(r, 100), randomParts(r, 100)
		l := randomRight(r, b, list, 12)
		p := randomPlace(r, b, list)
		var layouts [][]api.Place
		if must[bool](t)(nest.Free(b, list, l, p)) {
			added++
			layouts = append(layouts, append(slices.Clone(l), p))
		}
		for i := range l {
			layouts = append(layouts, slices.Delete(slices.Clone(l), i, i+1))
		}
		mixed := slices.Clone(l)
		r.Shuffle(len(mixed), func(i, j int) { mixed[i], mixed[j] = mixed[j], mixed[i] })
		for _, other := range append(layouts, mixed) {
			if index, err := nest.Check(b, list, other); index != 0 || err != api.OK {
				t.Fatalf("%v, %v: %v is right, but %v: %d, %d", b, list, l, other, index, err)
			}
		}
	}
	if added < 100 {
		t.Errorf("only %d are free", added)
	}
}

// P7.8: Waste2 is at least 0, no part lies there more often than Bound, and both are what the areas say.
func TestWasteAndBound(t *testing.T) {
	r := rand.New(rand.NewPCG(23, 24))
	for range 800 {
		b, list := randomBoard(r, 60), randomParts(r, 60)
		l := randomRight(r, b, list, 30)
		counts, covered := must[[]int](t)(nest.Count(b, list, l)), 0
		for part, n := range counts {
			if bound := must[int](t)(nest.Bound(b, list, part)); n > bound {
				t.Fatalf("%v, %v, %v: part %d lies there %d times, but Bound: %d", b, list, l, part, n, bound)
			}
			covered += n * must[int](t)(outline.Area2(list[part].O))
		}
		if waste := must[int](t)(nest.Waste2(b, list, l)); waste < 0 || waste+covered != 2*b.W*b.H {
			t.Fatalf("%v, %v, %v: Waste2 %d, covered %d", b, list, l, waste, covered)
		}
	}
}

// P7.9: Mirror of Mirror is the board, with the parts in canonical form; the mirrored layout is right, with the same Waste2.
func TestMirrors(t *testing.T) {
	r := rand.New(rand.NewPCG(25, 26))
	for range 800 {
		b, list := randomBoard(r, 60), randomParts(r, 60)
		l := randomRight(r, b, list, 12)
		m, mirrored, places, err := nest.Mirror(b, list, l)
		if index, e := nest.Check(m, mirrored, places); index != 0 || e != api.OK || err != api.OK {
			t.Fatalf("%v, %v, %v: mirrored %v, %v, %v: %d, %d", b, list, l, m, mirrored, places, index, e)
		}
		if one, two := must[int](t)(nest.Waste2(b, list, l)), must[int](t)(nest.Waste2(m, mirrored, places)); one != two {
			t.Fatalf("%v, %v, %v: Waste2 %d, mirrored %d", b, list, l, one, two)
		}
		again, twice, back, err := nest.Mirror(m, mirrored, places)
		var canonical []api.Part
		for _, p := range list {
			canonical = append(canonical, api.Part{O: must[[]api.XY](t)(outline.Canonical(p.O)), Turns: p.Turns})
		}
		if err != api.OK || !sameBoard(again, b) || !sameParts(twice, canonical) || !slices.Equal(back, l) {
			t.Fatalf("%v, %v, %v: mirrored twice %v, %v, %v, %d", b, list, l, again, twice, back, err)
		}
	}
}
