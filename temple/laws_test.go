package temple_test

import (
	"math/rand/v2"
	"testing"

	"pantoscope/api"
	"pantoscope/temple"
)

// P4.8: Check accepts Match, which has Most pairs; Guard is a guard with as many elements.
func TestPairsAndGuards(t *testing.T) {
	r := rand.New(rand.NewPCG(7, 8))
	for range 1500 {
		l, tol := randomTemples(r, api.MaxTemples)
		pairs, guard := must[[][2]int](t)(temple.Match(l, tol)), must[[]int](t)(temple.Guard(l, tol))
		if err := temple.Check(l, tol, pairs); err != api.OK {
			t.Fatalf("Check(%v, %d, %v): %d", l, tol, pairs, err)
		}
		if !must[bool](t)(temple.IsGuard(l, tol, guard)) {
			t.Fatalf("Guard(%v, %d): %v", l, tol, guard)
		}
		if most := must[int](t)(temple.Most(l, tol)); len(pairs) != most || len(guard) != most {
			t.Fatalf("%v, %d: %v and %v, want %d", l, tol, pairs, guard, most)
		}
		if rest := must[[]int](t)(temple.Rest(l, tol)); len(rest)+2*len(pairs) != len(l) {
			t.Fatalf("%v, %d: %v and %v", l, tol, pairs, rest)
		}
		if worst := must[int](t)(temple.Worst(l, pairs)); worst > tol {
			t.Fatalf("%v, %d: %v differ by %d", l, tol, pairs, worst)
		}
	}
}

// P4.9: one more temple, a greater tolerance, and another order.
func TestOneMore(t *testing.T) {
	r := rand.New(rand.NewPCG(9, 10))
	more := 0
	for range 1500 {
		l, tol := randomTemples(r, api.MaxTemples)
		if len(l) == 0 {
			continue
		}
		n := len(l) - 1
		most, less := must[int](t)(temple.Most(l, tol)), must[int](t)(temple.Most(l[:n], tol))
		if most < less || most > less+1 {
			t.Fatalf("%v, %d: %d, then %d", l, tol, less, most)
		}
		if most > less {
			more++
		}
		if wider := must[int](t)(temple.Most(l, min(tol+1+r.IntN(5), 1000))); wider < most {
			t.Fatalf("%v, %d: %d, with a greater tolerance %d", l, tol, most, wider)
		}
		r.Shuffle(len(l), func(i, j int) { l[i], l[j] = l[j], l[i] })
		if other := must[int](t)(temple.Most(l, tol)); other != most {
			t.Fatalf("%v, %d: %d, in another order %d", l, tol, other, most)
		}
	}
	if more < 200 {
		t.Errorf("only %d are more", more)
	}
}

// P4.10: Most with Tolerance(n) is at least n, with the tolerance 1 less it is less.
func TestTolerances(t *testing.T) {
	r := rand.New(rand.NewPCG(11, 12))
	positive := 0
	for range 300 {
		l, _ := randomTemples(r, api.MaxTemples)
		greatest := must[int](t)(temple.Most(l, 1000))
		for n := range greatest + 1 {
			tol := must[int](t)(temple.Tolerance(l, n))
			if must[int](t)(temple.Most(l, tol)) < n {
				t.Fatalf("Tolerance(%v, %d): %d is too little", l, n, tol)
			}
			if tol > 0 {
				positive++
				if must[int](t)(temple.Most(l, tol-1)) >= n {
					t.Fatalf("Tolerance(%v, %d): %d is too much", l, n, tol)
				}
			}
		}
		if result := results(temple.Tolerance(l, greatest+1)); !isError(result, api.ErrLimit) {
			t.Fatalf("Tolerance(%v, %d): %v", l, greatest+1, result)
		}
	}
	if positive < 500 {
		t.Errorf("only %d are positive", positive)
	}
}

// P4.11: Opened never grows with openings, not falls with f, and goes on where it was.
func TestOpenings(t *testing.T) {
	r := rand.New(rand.NewPCG(13, 14))
	for range 3000 {
		h := randomHinge(r)
		f, m, n := r.IntN(h.Start+1), r.IntN(200), r.IntN(200)
		first := must[int](t)(temple.Opened(h, f, m))
		both := must[int](t)(temple.Opened(h, f, m+n))
		if both > first || first > f || first < 0 || both < 0 {
			t.Fatalf("%v, %d: %d after %d, %d after %d", h, f, first, m, both, m+n)
		}
		if again := must[int](t)(temple.Opened(h, first, n)); again != both {
			t.Fatalf("%v, %d: %d after %d and %d, want %d", h, f, again, m, n, both)
		}
		if f < h.Start && must[int](t)(temple.Opened(h, f+1, m)) < first {
			t.Fatalf("%v, %d: %d after %d, less with 1 more", h, f, first, m)
		}
	}
}

// P4.11: the friction after Life is less than least, after one opening less it is not.
func TestLives(t *testing.T) {
	r := rand.New(rand.NewPCG(15, 16))
	lives, none := 0, 0
	for range 3000 {
		h := randomHinge(r)
		f, least := r.IntN(h.Start+1), r.IntN(h.Start+1)
		n, ok, err := temple.Life(h, f, least)
		if err != api.OK {
			t.Fatalf("Life(%v, %d, %d): %d", h, f, least, err)
		}
		if !ok {
			none++
			if end := must[int](t)(temple.Opened(h, f, api.MaxOpen)); n != 0 || end < least {
				t.Fatalf("Life(%v, %d, %d): %d and none, but %d", h, f, least, n, end)
			}
			continue
		}
		if must[int](t)(temple.Opened(h, f, n)) >= least || n > 0 && must[int](t)(temple.Opened(h, f, n-1)) < least {
			t.Fatalf("Life(%v, %d, %d): %d", h, f, least, n)
		}
		if n > 0 {
			lives++
		}
	}
	if lives < 500 || none < 50 {
		t.Errorf("only %d lives, %d none", lives, none)
	}
}

// P4.11: Services never falls with n or least.
func TestMoreServices(t *testing.T) {
	r := rand.New(rand.NewPCG(17, 18))
	more := 0
	for range 5000 {
		h := randomHinge(r)
		n, least := r.IntN(500), r.IntN(h.Start+1)/(1+r.IntN(10))
		times, err := temple.Services(h, n, least)
		if err != api.OK {
			continue
		}
		longer, e1 := temple.Services(h, n+1+r.IntN(50), least)
		stricter, e2 := temple.Services(h, n, min(least+1+r.IntN(50), h.Start))
		if e1 == api.OK && longer < times || e2 == api.OK && stricter < times {
			t.Fatalf("%v, %d, %d: %d, then %d and %d", h, n, least, times, longer, stricter)
		}
		if longer > times || stricter > times {
			more++
		}
	}
	if more < 200 {
		t.Errorf("only %d are more", more)
	}
}
