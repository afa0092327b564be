package nest_test

import (
	"math"
	"math/rand/v2"
	"slices"
	"testing"

	"pantoscope/api"
	"pantoscope/nest"
)

// P7.5: a place is free if nothing is wrong with it; if something is, that is no error.
func TestFree(t *testing.T) {
	list := []api.Part{{O: box(20, 20)}, turning(corner(30, 40))}
	b := board(200, 100, 10, rect(100, 0, 50, 50))
	l := []api.Place{at(0, 20, 20)}
	for _, c := range []struct {
		p    api.Place
		want bool
	}{
		{at(0, 70, 20), true}, {at(0, 69, 20), false}, {at(0, 80, 20), true}, {at(0, 81, 20), false}, {at(0, 180, 80), true}, {at(0, 181, 80), false},
		{at(0, 20, 20), false}, {turnedAt(0, 70, 20), false}, {turnedAt(1, 80, 40), true}, {turnedAt(1, 79, 40), false}, {turnedAt(1, 70, 40), false},
		{at(2, 70, 20), false}, {at(-1, 70, 20), false}, {at(math.MaxInt, 70, 20), false}, {at(math.MinInt, 70, 20), false},
		{at(0, 120001, 20), false}, {at(0, math.MaxInt, 20), false}, {at(0, math.MinInt, math.MinInt), false}, {at(0, 70, math.MaxInt), false},
	} {
		want := c.want
		if _, err := nest.Check(b, list, append(slices.Clone(l), c.p)); (err == api.OK) != want {
			t.Errorf("Check with %v: %d", c.p, err)
		}
		if is, e := nest.Free(b, list, l, c.p); is != want || e != api.OK {
			t.Errorf("Free(%v): %v, %d", c.p, is, e)
		}
	}
	if is, e := nest.Free(b, nil, nil, at(0, 0, 0)); is || e != api.OK {
		t.Errorf("Free without parts: %v, %d", is, e)
	}
}

// full are a board and 200 places of a part on it, with room for more.
func full() (api.Board, []api.Part, []api.Place) {
	var l []api.Place
	for i := range 200 {
		l = append(l, at(0, 3*i, 0))
	}
	return board(1000, 1000, 1), parts(corner(2, 2)), l
}

// P7.5: a layout with 200 places has room for no more, and one with 201 is an error.
func TestFreeOfFull(t *testing.T) {
	b, list, l := full()
	for n, want := range map[int]bool{199: true, 200: false} {
		if is, e := nest.Free(b, list, l[:n], at(0, 900, 200)); is != want || e != api.OK {
			t.Errorf("Free of %d: %v, %d", n, is, e)
		}
		p, is, e := nest.Drop(b, list, l[:n], at(0, 900, 200))
		if is != want || e != api.OK || want && p != at(0, 900, 0) || !want && p != (api.Place{}) {
			t.Errorf("Drop of %d: %v, %v, %d", n, p, is, e)
		}
	}
	l = append(l, at(0, 900, 100))
	for _, r := range [][]any{results(nest.Free(b, list, l, at(0, 900, 200))), results(nest.Drop(b, list, l, at(0, 900, 200)))} {
		if !isError(r, api.ErrLimit) {
			t.Errorf("%v", r)
		}
	}
}

// P7.5: errors of the layout go ahead of those of the height, and these ahead of a place that is not free.
func TestErrorsOfFreeAndDrop(t *testing.T) {
	b, list, layouts := wrongLayouts()
	for _, c := range layouts {
		for _, y := range []int{300, -1, 501, math.MinInt, math.MaxInt} {
			for _, r := range [][]any{results(nest.Free(b, list, c.l, at(0, 300, y))), results(nest.Drop(b, list, c.l, at(0, 300, y))), results(nest.Drop(b, list, c.l, at(1, 300, y)))} {
				if !isError(r, c.err) {
					t.Errorf("%v, %d: %v", c.l, y, r)
				}
			}
		}
	}
	for _, y := range []int{-1, 501, math.MinInt, math.MaxInt} {
		for _, part := range []int{0, 1, -1} {
			if r := results(nest.Drop(b, list, nil, at(part, 300, y))); !isError(r, api.ErrArg) {
				t.Errorf("Drop from %d of part %d: %v", y, part, r)
			}
		}
	}
	for _, p := range []api.Place{at(0, 300, 19), at(1, 300, 300), turnedAt(0, 300, 300), at(0, 19, 300), at(0, 120001, 300), at(0, math.MinInt, 0)} {
		if q, is, e := nest.Drop(b, list, nil, p); q != (api.Place{}) || is || e != api.OK {
			t.Errorf("Drop(%v): %v, %v, %d", p, q, is, e)
		}
	}
}

// P7.5: a part falls to the lower side of the board, onto a fault, or onto the gap of another part, and not through it.
func TestDrop(t *testing.T) {
	list := []api.Part{{O: box(20, 20)}, turning(corner(30, 40)), {O: xy(0, 0, 1, 0, 1, 1, 0, 1)}}
	b := board(1000, 1000, 10, rect(100, 30, 50, 50))
	l := []api.Place{at(0, 20, 20), at(0, 220, 400)}
	for _, c := range []struct{ p, want api.Place }{
		{at(0, 300, 500), at(0, 300, 20)},
		{at(0, 300, 20), at(0, 300, 20)},
		{at(0, 300, 21), at(0, 300, 20)},
		{at(0, 20, 500), at(0, 20, 70)},
		{at(0, 69, 500), at(0, 69, 70)},
		{at(0, 70, 500), at(0, 70, 20)},
		{at(0, 100, 500), at(0, 100, 100)},
		{at(2, 149, 300), at(2, 149, 80)},
		{at(2, 150, 300), at(2, 150, 0)},
		{at(2, 120, 29), at(2, 120, 0)},
		{at(0, 220, 500), at(0, 220, 450)},
		{at(0, 220, 350), at(0, 220, 20)},
		{at(0, 190, 500), at(0, 190, 450)},
		{turnedAt(1, 400, 500), turnedAt(1, 400, 40)},
		{at(1, 400, 0), at(1, 400, 0)},
		{turnedAt(1, 45, 500), turnedAt(1, 45, 90)},
		{at(1, 35, 500), at(1, 35, 50)},
	} {
		if p, is, e := nest.Drop(b, list, l, c.p); p != c.want || !is || e != api.OK {
			t.Errorf("Drop(%v): %v, %v, %d", c.p, p, is, e)
		}
	}
	for _, p := range []api.Place{at(0, 220, 430), at(0, 100, 60), at(2, 120, 40), at(0, 20, 20)} {
		if q, is, e := nest.Drop(b, list, l, p); q != (api.Place{}) || is || e != api.OK {
			t.Errorf("Drop(%v): %v, %v, %d", p, q, is, e)
		}
	}
}

// P7.5: Free and Drop are what Check says of the layout with one more place.
func TestFreeAndDropByCheck(t *testing.T) {
	r := rand.New(rand.NewPCG(9, 10))
	fell, stayed, none := 0, 0, 0
	for range 1500 {
		most := []int{8, 60, 400}[r.IntN(3)]
		b, list := randomBoard(r, most), randomParts(r, most)
		l := randomRight(r, b, list, 8)
		p := randomPlace(r, b, list)
		for range 5 {
			if is, _ := nest.Free(b, list, l, p); !is {
				p = randomPlace(r, b, list)
			}
		}
		_, err := nest.Check(b, list, append(slices.Clone(l), p))
		if is, e := nest.Free(b, list, l, p); is != (err == api.OK) || e != api.OK {
			t.Fatalf("Free(%v, %v, %v, %v): %v, %d, but Check: %d", b, list, l, p, is, e, err)
		}
		want, ok := dropped(b, list, l, p)
		q, is, e := nest.Drop(b, list, l, p)
		if q != want || is != ok || e != api.OK {
			t.Fatalf("Drop(%v, %v, %v, %v): %v, %v, %d, not %v, %v", b, list, l, p, q, is, e, want, ok)
		}
		switch {
		case !ok:
			none++
		case q == p:
			stayed++
		default:
			fell++
		}
	}
	if min(fell, stayed, none) < 50 {
		t.Errorf("%d fell, %d stayed, %d were not free", fell, stayed, none)
	}
}
