package temple_test

import (
	"math"
	"math/rand/v2"
	"testing"

	"pantoscope/api"
	"pantoscope/temple"
)

// example is the hinge of the chapter's example 2.
var example = api.Hinge{Barrels: 5, Start: 1000, Wear: 50, Tighten: 100}

// P4.6: what is valid, also at the borders.
func TestValidHinge(t *testing.T) {
	for _, h := range []api.Hinge{
		example, {Barrels: 3, Start: 1, Wear: 0, Tighten: 1}, {Barrels: 7, Start: 10_000, Wear: 1000, Tighten: 10_000}, {Barrels: 5, Start: 1, Wear: 1000, Tighten: 10_000},
	} {
		if !temple.ValidHinge(h) {
			t.Errorf("not valid: %v", h)
		}
	}
	for _, h := range badHinges() {
		if temple.ValidHinge(h) {
			t.Errorf("valid: %v", h)
		}
	}
}

// P4.6: also the chapter's example 2, and quotients that are rounded up.
func TestOpened(t *testing.T) {
	still := api.Hinge{Barrels: 3, Start: 777, Tighten: 5}
	most := api.Hinge{Barrels: 3, Start: 10_000, Wear: 1000, Tighten: 5}
	for _, c := range []struct {
		h          api.Hinge
		f, n, want int
	}{
		{example, 1000, 0, 1000}, {example, 1000, 1, 990}, {example, 1000, 2, 980}, {example, 990, 1, 980}, {example, 0, 5, 0}, {example, 1, 1, 0},
		{example, 100, 1, 99}, {example, 101, 1, 99}, {example, 1000, 100_000, 0}, {example, 7, 3, 4}, {example, 7, 7, 0}, {example, 7, 8, 0},
		{still, 777, 1, 777}, {still, 777, 100_000, 777}, {still, 0, 9, 0},
		{most, 10_000, 1, 6666}, {most, 3, 1, 2}, {most, 9999, 1, 6666}, {most, 9998, 1, 6665}, {most, 6666, 1, 4444}, {most, 2, 1, 1},
		{api.Hinge{Barrels: 7, Start: 10_000, Wear: 7, Tighten: 1}, 10_000, 1, 9990}, {api.Hinge{Barrels: 7, Start: 10_000, Wear: 1, Tighten: 1}, 7000, 1, 6999}, {api.Hinge{Barrels: 7, Start: 10_000, Wear: 1, Tighten: 1}, 7001, 1, 6999},
	} {
		if f := must[int](t)(temple.Opened(c.h, c.f, c.n)); f != c.want {
			t.Errorf("%v, %d, %d: %d, want %d", c.h, c.f, c.n, f, c.want)
		}
	}
}

// P4.6: what is tightened never gets tighter than new.
func TestTightened(t *testing.T) {
	for _, c := range []struct {
		h       api.Hinge
		f, want int
	}{
		{example, 0, 100}, {example, 1, 101}, {example, 899, 999}, {example, 900, 1000}, {example, 901, 1000}, {example, 1000, 1000},
		{api.Hinge{Barrels: 3, Start: 5, Tighten: 10_000}, 0, 5}, {api.Hinge{Barrels: 3, Start: 10_000, Tighten: 1}, 9998, 9999},
	} {
		if f := must[int](t)(temple.Tightened(c.h, c.f)); f != c.want {
			t.Errorf("%v, %d: %d, want %d", c.h, c.f, f, c.want)
		}
	}
}

// P4.7: the first opening after which the friction is too little, and none if there is none.
func TestLife(t *testing.T) {
	still := api.Hinge{Barrels: 3, Start: 777, Tighten: 5}
	slow := api.Hinge{Barrels: 7, Start: 10_000, Wear: 1, Tighten: 5}
	for _, c := range []struct {
		h              api.Hinge
		f, least, want int
		ok             bool
	}{
		{example, 1000, 1000, 1, true}, {example, 1000, 990, 2, true}, {example, 1000, 991, 1, true}, {example, 989, 990, 0, true}, {example, 990, 990, 1, true},
		{example, 0, 1, 0, true}, {example, 1, 1, 1, true}, {example, 0, 0, 0, false}, {example, 1000, 0, 0, false}, {example, 7, 1, 7, true},
		{still, 777, 777, 0, false}, {still, 776, 777, 0, true}, {still, 0, 0, 0, false},
		{slow, 7000, 1, 7000, true}, {slow, 7000, 7000, 1, true},
	} {
		n, ok, err := temple.Life(c.h, c.f, c.least)
		if n != c.want || ok != c.ok || err != api.OK {
			t.Errorf("%v, %d, %d: %d, %t, %d", c.h, c.f, c.least, n, ok, err)
		}
	}
}

// P4.7: how often a new hinge is tightened, and what is not enough.
func TestServices(t *testing.T) {
	still := api.Hinge{Barrels: 3, Start: 777, Tighten: 5}
	weak := api.Hinge{Barrels: 5, Start: 1000, Wear: 50, Tighten: 1}
	small := api.Hinge{Barrels: 5, Start: 100, Wear: 50, Tighten: 1}
	for _, c := range []struct {
		h              api.Hinge
		n, least, want int
		err            api.Errno
	}{
		{example, 0, 1000, 0, api.OK}, {example, 0, 0, 0, api.OK}, {example, 100_000, 0, 0, api.OK}, {example, 1, 990, 0, api.OK},
		{example, 2, 990, 1, api.OK}, {example, 3, 990, 2, api.OK}, {example, 2, 980, 0, api.OK}, {example, 3, 980, 1, api.OK},
		{example, 100, 990, 99, api.OK}, {example, 4, 980, 1, api.OK}, {example, 5, 980, 2, api.OK},
		{example, 1, 991, 0, api.ErrLimit}, {example, 1, 1000, 0, api.ErrLimit}, {example, 100_000, 991, 0, api.ErrLimit},
		{still, 100_000, 777, 0, api.OK}, {still, 0, 777, 0, api.OK},
		{weak, 1, 990, 0, api.OK}, {weak, 2, 990, 0, api.ErrLimit}, {weak, 2, 981, 1, api.OK}, {weak, 3, 981, 0, api.ErrLimit},
		{small, 100_000, 99, 99_999, api.OK}, {small, 100_000, 100, 0, api.ErrLimit}, {small, 100_000, 98, 99_998, api.OK},
	} {
		if n, err := temple.Services(c.h, c.n, c.least); n != c.want || err != c.err {
			t.Errorf("%v, %d, %d: %d, %d", c.h, c.n, c.least, n, err)
		}
	}
}

// P4.1, P4.6, P4.7: ErrHinge comes first, whatever else is wrong.
func TestErrHinge(t *testing.T) {
	for _, h := range badHinges() {
		for _, n := range []int{0, -1, math.MinInt, math.MaxInt} {
			for _, r := range [][]any{
				results(temple.Opened(h, n, 0)), results(temple.Opened(h, 0, n)), results(temple.Tightened(h, n)),
				results(temple.Life(h, n, 0)), results(temple.Life(h, 0, n)), results(temple.Services(h, n, 0)), results(temple.Services(h, 0, n)),
			} {
				if !isError(r, api.ErrHinge) {
					t.Errorf("%v, %d: %v", h, n, r)
				}
			}
		}
	}
}

// P4.6, P4.7: ErrArg, ahead of ErrLimit.
func TestHingeArguments(t *testing.T) {
	for _, f := range []int{-1, 1001, math.MinInt, math.MaxInt} {
		for _, r := range [][]any{
			results(temple.Opened(example, f, 0)), results(temple.Opened(example, f, 100_000)), results(temple.Tightened(example, f)),
			results(temple.Life(example, f, 0)), results(temple.Life(example, 0, f)), results(temple.Life(example, 1000, f)), results(temple.Life(example, f, f)),
			results(temple.Services(example, 0, f)), results(temple.Services(example, 5, f)),
		} {
			if !isError(r, api.ErrArg) {
				t.Errorf("%d: %v", f, r)
			}
		}
	}
	for _, n := range []int{-1, 100_001, math.MinInt, math.MaxInt} {
		for _, r := range [][]any{
			results(temple.Opened(example, 0, n)), results(temple.Opened(example, 1000, n)), results(temple.Services(example, n, 0)), results(temple.Services(example, n, 1000)),
		} {
			if !isError(r, api.ErrArg) {
				t.Errorf("%d openings: %v", n, r)
			}
		}
	}
}

// P4.6, P4.7: many hinges, opened and tightened one by one, as the chapter says.
func TestHingesMany(t *testing.T) {
	r := rand.New(rand.NewPCG(5, 6))
	tightened, limits := 0, 0
	for range 2000 {
		h := randomHinge(r)
		n, least := r.IntN(300), r.IntN(h.Start+1)
		if r.IntN(2) == 0 {
			least /= 1 + r.IntN(50)
		}
		f, times, err := h.Start, 0, api.OK
		for range n {
			if openedOf(h, f) < least {
				f = min(f+h.Tighten, h.Start)
				times++
			}
			if f = openedOf(h, f); f < least {
				times, err = 0, api.ErrLimit
				break
			}
		}
		if got, e := temple.Services(h, n, least); got != times || e != err {
			t.Fatalf("Services(%v, %d, %d): %d, %d, want %d, %d", h, n, least, got, e, times, err)
		}
		if err != api.OK {
			limits++
		} else if times > 0 {
			tightened++
		}
		f = h.Start
		for m := range n {
			if got := must[int](t)(temple.Opened(h, h.Start, m)); got != f {
				t.Fatalf("Opened(%v, %d, %d): %d, want %d", h, h.Start, m, got, f)
			}
			f = openedOf(h, f)
		}
	}
	if tightened < 100 || limits < 100 {
		t.Errorf("only %d are tightened, %d too loose", tightened, limits)
	}
}

// openedOf takes off so little that 1000 * Barrels times it is at least f * Wear.
func openedOf(h api.Hinge, f int) int {
	worn := 0
	for worn*1000*h.Barrels < f*h.Wear {
		worn++
	}
	return f - worn
}
