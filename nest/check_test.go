package nest_test

import (
	"math"
	"math/rand/v2"
	"slices"
	"testing"

	"pantoscope/api"
	"pantoscope/nest"
)

// repeated is a layout with n times the same place.
func repeated(n int, p api.Place) []api.Place {
	return slices.Repeat([]api.Place{p}, n)
}

// P7.3: which place is wrong, and in which way.
func TestCheck(t *testing.T) {
	list := []api.Part{{O: box(20, 20)}, turning(corner(30, 40)), {O: corner(5, 5)}}
	b := board(200, 100, 10, rect(100, 0, 50, 50))
	for i, c := range []struct {
		l     []api.Place
		index int
		err   api.Errno
	}{
		{nil, 0, api.OK},
		{[]api.Place{at(0, 20, 20), at(0, 70, 20)}, 0, api.OK},
		{[]api.Place{at(0, 20, 20), at(0, 20, 70)}, 0, api.OK},
		{[]api.Place{at(0, 180, 80), turnedAt(1, 30, 40), at(1, 40, 50)}, 0, api.OK},
		{[]api.Place{turnedAt(1, 200, 100), at(1, 150, 40)}, 0, api.OK},
		{[]api.Place{at(0, 20, 20), at(0, 69, 20)}, 1, api.ErrClash},
		{[]api.Place{at(0, 69, 20), at(0, 20, 20)}, 1, api.ErrClash},
		{[]api.Place{at(0, 20, 20), at(0, 20, 20)}, 1, api.ErrClash},
		{[]api.Place{at(0, 20, 20), at(0, 80, 20), at(2, 20, 50), at(2, 20, 52), at(2, 20, 20)}, 3, api.ErrClash},
		{[]api.Place{at(0, 20, 20), at(0, 80, 20), at(2, 20, 50), at(2, 44, 44)}, 3, api.ErrClash},
		{[]api.Place{at(0, 81, 20)}, 0, api.ErrFault},
		{[]api.Place{at(0, 20, 20), at(0, 169, 20)}, 1, api.ErrFault},
		{[]api.Place{at(0, 170, 20), at(2, 20, 20), at(0, 100, 69)}, 2, api.ErrFault},
		{[]api.Place{at(0, 19, 20)}, 0, api.ErrBeyond},
		{[]api.Place{at(0, 20, 19)}, 0, api.ErrBeyond},
		{[]api.Place{at(0, 20, 20), at(0, 181, 20)}, 1, api.ErrBeyond},
		{[]api.Place{at(0, 20, 20), at(0, 70, 81)}, 1, api.ErrBeyond},
		{[]api.Place{at(1, 120000, -120000)}, 0, api.ErrBeyond},
		{[]api.Place{at(0, 20, 20), turnedAt(0, 80, 20)}, 1, api.ErrArg},
		{[]api.Place{at(0, 20, 20), at(3, 80, 20)}, 1, api.ErrArg},
		{[]api.Place{at(-1, 20, 20), at(3, 80, 20)}, 0, api.ErrArg},
		{repeated(200, at(2, 20, 20)), 1, api.ErrClash},
		{repeated(201, at(2, 20, 20)), 0, api.ErrLimit},
		{append(repeated(200, at(2, 20, 20)), at(7, 20, 20)), 0, api.ErrLimit},
		{make([]api.Place, 100000), 0, api.ErrLimit},
	} {
		if index, err := nest.Check(b, list, c.l); index != c.index || err != c.err {
			t.Errorf("layout %d, %v: %d, %d", i, c.l, index, err)
		}
		if err := c.err; err != api.OK {
			for name, r := range map[string][]any{"Count": results(nest.Count(b, list, c.l)), "Waste2": results(nest.Waste2(b, list, c.l))} {
				if !isError(r, err) {
					t.Errorf("%s, layout %d: %v", name, i, r)
				}
			}
		}
	}
}

// P7.3: each error goes ahead of those behind it, wherever in the list it is.
func TestOrderOfErrors(t *testing.T) {
	list := parts(box(20, 20), corner(5, 5))
	b := board(200, 100, 10, rect(100, 0, 50, 50))
	clash, fault, beyond, wrong := at(0, 21, 20), at(1, 110, 20), at(0, 19, 20), at(2, 20, 20)
	for i, c := range []struct {
		l     []api.Place
		index int
		err   api.Errno
	}{
		{[]api.Place{at(0, 20, 20), clash, fault, beyond, wrong}, 4, api.ErrArg},
		{[]api.Place{wrong, beyond, fault, clash, clash}, 0, api.ErrArg},
		{[]api.Place{at(0, 20, 20), clash, fault, beyond}, 3, api.ErrBeyond},
		{[]api.Place{beyond, fault, clash, clash}, 0, api.ErrBeyond},
		{[]api.Place{at(0, 20, 20), clash, fault, fault}, 2, api.ErrFault},
		{[]api.Place{fault, clash, clash}, 0, api.ErrFault},
		{[]api.Place{clash, clash}, 1, api.ErrClash},
	} {
		if index, err := nest.Check(b, list, c.l); index != c.index || err != c.err {
			t.Errorf("layout %d: %d, %d", i, index, err)
		}
	}
}

// P7.3: ErrArg for places that are too far away, or that turn a part that does not turn.
func TestCheckNowhere(t *testing.T) {
	list, b := []api.Part{{O: box(20, 20)}, turning(box(20, 20))}, board(100, 100, 0)
	for _, n := range []int{-120001, 120001, math.MinInt, math.MaxInt} {
		for _, p := range []api.Place{at(0, n, 20), at(0, 20, n), turnedAt(1, n, 20), turnedAt(1, 20, n), turnedAt(0, 20, 20), at(n, 20, 20)} {
			if index, err := nest.Check(b, list, []api.Place{at(0, 70, 70), p}); index != 1 || err != api.ErrArg {
				t.Errorf("%v: %d, %d", p, index, err)
			}
		}
	}
	for _, n := range []int{-120000, 120000} {
		for _, p := range []api.Place{at(0, n, 20), at(0, 20, n)} {
			if index, err := nest.Check(b, list, []api.Place{at(0, 70, 70), p}); index != 1 || err != api.ErrBeyond {
				t.Errorf("%v: %d, %d", p, index, err)
			}
		}
	}
	if index, err := nest.Check(b, nil, []api.Place{at(0, 20, 20)}); index != 0 || err != api.ErrArg {
		t.Errorf("without parts: %d, %d", index, err)
	}
}

// P7.3: a fault counts with gap 0 only, and a part that only touches the outline's box of another one is apart from it.
func TestCheckTouching(t *testing.T) {
	b := board(60, 60, 20, rect(20, 20, 1, 1))
	if index, err := nest.Check(b, parts(box(10, 10)), []api.Place{at(0, 10, 10)}); index != 0 || err != api.OK {
		t.Errorf("beside a fault: %d, %d", index, err)
	}
	b = board(40, 30, 0)
	list := []api.Part{turning(corner(40, 30))}
	l := []api.Place{at(0, 0, 0), turnedAt(0, 40, 30)}
	if index, err := nest.Check(b, list, l); index != 0 || err != api.OK {
		t.Errorf("two halves: %d, %d", index, err)
	}
	if waste, err := nest.Waste2(b, list, l); waste != 0 || err != api.OK {
		t.Errorf("Waste2 of two halves: %d, %d", waste, err)
	}
	b.Gap = 1
	if index, err := nest.Check(b, list, l); index != 1 || err != api.ErrClash {
		t.Errorf("two halves with a gap: %d, %d", index, err)
	}
}

// P7.3: a part beside the long side of a fault that is as large as can be.
func TestCheckLargeFault(t *testing.T) {
	b := board(60000, 60000, 0, rect(0, 0, 50000, 60000))
	for _, c := range []struct {
		x   int
		err api.Errno
	}{{60000, api.OK}, {54990, api.OK}, {50010, api.OK}, {50009, api.ErrFault}, {10, api.ErrFault}} {
		for _, p := range []api.Place{at(0, c.x-10, 30000), turnedAt(0, c.x, 30010)} {
			if c.x == 50010 && p.Turned {
				p.X, p.Y = 50010, 59000
			}
			if _, err := nest.Check(b, []api.Part{turning(corner(10, 10))}, []api.Place{p}); err != c.err {
				t.Errorf("%v: %d", p, err)
			}
		}
	}
}

// P7.3: Check is what the terms say.
func TestCheckByTheTerms(t *testing.T) {
	r := rand.New(rand.NewPCG(5, 6))
	count := map[api.Errno]int{}
	for range 6000 {
		most := []int{8, 60, 3000}[r.IntN(3)]
		b, list := randomBoard(r, most), randomParts(r, most)
		l := randomRight(r, b, list, 8)
		for range r.IntN(3) {
			p := randomPlace(r, b, list)
			if r.IntN(5) == 0 {
				p.Turned = !p.Turned
			}
			l = slices.Insert(l, r.IntN(len(l)+1), p)
		}
		index, err := checked(b, list, l)
		if i, e := nest.Check(b, list, l); i != index || e != err {
			t.Fatalf("%v, %v, %v: %d, %d, not %d, %d", b, list, l, i, e, index, err)
		}
		count[err]++
	}
	for _, e := range []api.Errno{api.OK, api.ErrArg, api.ErrBeyond, api.ErrFault, api.ErrClash} {
		if count[e] < 150 {
			t.Errorf("%v", count)
		}
	}
}

// P7.3: how often each part lies there, and what no part covers.
func TestCountAndWaste2(t *testing.T) {
	list := []api.Part{{O: box(20, 20)}, turning(corner(30, 40)), {O: corner(5, 5)}}
	b := board(200, 100, 10, rect(100, 0, 50, 50))
	for _, c := range []struct {
		l      []api.Place
		counts []int
		waste  int
	}{
		{nil, []int{0, 0, 0}, 40000},
		{[]api.Place{at(0, 20, 20)}, []int{1, 0, 0}, 36800},
		{[]api.Place{at(0, 180, 80), turnedAt(1, 30, 40), at(1, 40, 50), at(2, 0, 60)}, []int{1, 2, 1}, 40000 - 3200 - 2400 - 25},
	} {
		if counts, e := nest.Count(b, list, c.l); !slices.Equal(counts, c.counts) || e != api.OK {
			t.Errorf("Count(%v): %v, %d", c.l, counts, e)
		}
		if waste, e := nest.Waste2(b, list, c.l); waste != c.waste || e != api.OK {
			t.Errorf("Waste2(%v): %d, %d", c.l, waste, e)
		}
	}
	if counts, e := nest.Count(b, nil, nil); len(counts) != 0 || e != api.OK {
		t.Errorf("Count without parts: %v, %d", counts, e)
	}
	if waste, e := nest.Waste2(board(60000, 60000, 0), nil, nil); waste != 7_200_000_000 || e != api.OK {
		t.Errorf("Waste2 of the largest board: %d, %d", waste, e)
	}
}
