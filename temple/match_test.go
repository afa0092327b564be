package temple_test

import (
	"cmp"
	"math"
	"math/rand/v2"
	"slices"
	"testing"

	"pantoscope/api"
	"pantoscope/temple"
)

// P4.3: also the chapter's example 1, ties of lengths, colours, and the borders of a tolerance.
func TestMatch(t *testing.T) {
	colours := []api.Temple{left(6, 50, 9), right(5, 51, 9), left(4, 50, 2), right(3, 50, 2), right(2, 50, 1), left(1, 52, 1)}
	ties := []api.Temple{left(9, 10, 1), left(3, 10, 1), right(8, 10, 1), right(7, 10, 1), left(5, 10, 1), right(6, 9, 1)}
	for name, c := range map[string]struct {
		l     []api.Temple
		tol   int
		pairs [][2]int
		rest  []int
	}{
		"example":           {sides([]int{100, 104, 110}, []int{103, 112}), 2, [][2]int{{1, 3}, {2, 4}}, []int{0}},
		"in any order":      {sides([]int{110, 100, 104}, []int{112, 103}), 2, [][2]int{{2, 4}, {0, 3}}, []int{1}},
		"a right one aside": {sides([]int{100, 110}, []int{97, 102, 111}), 2, [][2]int{{0, 3}, {1, 4}}, []int{2}},
		"just not":          {sides([]int{100, 104, 110}, []int{103, 112}), 0, nil, []int{0, 1, 2, 3, 4}},
		"one less":          {sides([]int{100, 104, 110}, []int{103, 112}), 1, [][2]int{{1, 3}}, []int{0, 2, 4}},
		"wide":              {sides([]int{100, 104, 110}, []int{103, 112}), 1000, [][2]int{{0, 3}, {1, 4}}, []int{2}},
		"nil":               {nil, 5, nil, nil},
		"left alone":        {sides([]int{5, 5}, nil), 5, nil, []int{0, 1}},
		"right alone":       {sides(nil, []int{5, 5}), 5, nil, []int{0, 1}},
		"colours":           {colours, 2, [][2]int{{5, 4}, {2, 3}, {0, 1}}, nil},
		"colours, narrow":   {colours, 0, [][2]int{{2, 3}}, []int{0, 1, 4, 5}},
		"colours apart":     {[]api.Temple{left(1, 50, 1), right(2, 50, 2)}, 1000, nil, []int{0, 1}},
		"ties":              {ties, 0, [][2]int{{1, 3}, {4, 2}}, []int{0, 5}},
		"ties, wide":        {ties, 1, [][2]int{{1, 5}, {4, 3}, {0, 2}}, nil},
		"borders":           {sides([]int{1, 2000}, []int{1001, 1000}), 1000, [][2]int{{0, 3}, {1, 2}}, nil},
	} {
		if pairs := must[[][2]int](t)(temple.Match(c.l, c.tol)); !slices.Equal(pairs, c.pairs) {
			t.Errorf("Match, %s: %v", name, pairs)
		}
		if n := must[int](t)(temple.Most(c.l, c.tol)); n != len(c.pairs) {
			t.Errorf("Most, %s: %d", name, n)
		}
		if rest := must[[]int](t)(temple.Rest(c.l, c.tol)); !slices.Equal(rest, c.rest) {
			t.Errorf("Rest, %s: %v", name, rest)
		}
	}
}

// matchOf makes pairs as the chapter says.
func matchOf(l []api.Temple, tol int) [][2]int {
	var pairs [][2]int
	for colour := range 10 {
		aside := make([]bool, len(l))
		for {
			a, b := shortest(l, aside, api.SideLeft, colour), shortest(l, aside, api.SideRight, colour)
			if a < 0 || b < 0 {
				break
			}
			paired := canPairOf(l[a], l[b], tol)
			if paired {
				pairs = append(pairs, [2]int{a, b})
			}
			aside[a] = paired || l[a].Length < l[b].Length
			aside[b] = paired || l[b].Length < l[a].Length
		}
	}
	return pairs
}

// shortest is the index of the shortest temple that is left, and -1 if there is none.
func shortest(l []api.Temple, aside []bool, side, colour int) int {
	best := -1
	for i, t := range l {
		if aside[i] || t.Side != side || t.Colour != colour {
			continue
		}
		if best < 0 || cmp.Or(cmp.Compare(t.Length, l[best].Length), cmp.Compare(t.Number, l[best].Number)) < 0 {
			best = i
		}
	}
	return best
}

// P4.3, P4.8: many lists, by the terms of the chapter: the pairs, their greatest number, and the rest.
func TestMatchMany(t *testing.T) {
	r := rand.New(rand.NewPCG(1, 2))
	counts := map[int]int{}
	for range 3000 {
		l, tol := randomTemples(r, 9)
		pairs := must[[][2]int](t)(temple.Match(l, tol))
		if want := matchOf(l, tol); !slices.Equal(pairs, want) {
			t.Fatalf("Match(%v, %d): %v, want %v", l, tol, pairs, want)
		}
		most := mostOf(l, tol)
		if n := must[int](t)(temple.Most(l, tol)); n != most || len(pairs) != most {
			t.Fatalf("Most(%v, %d): %d and %v, want %d", l, tol, n, pairs, most)
		}
		rest := slices.DeleteFunc(all(len(l)), func(i int) bool {
			return slices.ContainsFunc(pairs, func(p [2]int) bool { return p[0] == i || p[1] == i })
		})
		if got := must[[]int](t)(temple.Rest(l, tol)); !slices.Equal(got, rest) {
			t.Fatalf("Rest(%v, %d): %v", l, tol, got)
		}
		counts[most]++
	}
	for n := range 4 {
		if counts[n] < 100 {
			t.Errorf("%d lists with %d pairs", counts[n], n)
		}
	}
}

// P4.3: the longest lists.
func TestMatchLong(t *testing.T) {
	var lefts, rights []int
	for i := range 30 {
		lefts, rights = append(lefts, 1500+10*i), append(rights, 1503+10*i)
	}
	l := sides(lefts, rights)
	slices.Reverse(l)
	for tol, want := range map[int]int{0: 0, 2: 0, 3: 30, 7: 30, 1000: 30} {
		pairs := must[[][2]int](t)(temple.Match(l, tol))
		if len(pairs) != want || temple.Check(l, tol, pairs) != api.OK {
			t.Errorf("%d: %v", tol, pairs)
		}
		if guard := must[[]int](t)(temple.Guard(l, tol)); len(guard) != want || !must[bool](t)(temple.IsGuard(l, tol, guard)) {
			t.Errorf("Guard, %d: %v", tol, guard)
		}
	}
}

// P4.4: also the chapter's example 1.
func TestIsGuard(t *testing.T) {
	l := append(sides([]int{100, 104, 110}, []int{103, 112}), right(9, 100, 2))
	for _, c := range []struct {
		tol  int
		list []int
		want bool
	}{
		{2, []int{1, 2}, true}, {2, []int{2, 1}, true}, {2, []int{3, 4}, true}, {2, []int{4, 1}, true}, {2, []int{5, 0, 3, 2}, true},
		{2, nil, false}, {2, []int{}, false}, {2, []int{1}, false}, {2, []int{2}, false}, {2, []int{0, 1}, false}, {2, []int{1, 3, 0, 5}, false},
		{0, nil, true}, {0, []int{5}, true}, {1, []int{1}, true}, {1, []int{3}, true}, {1, []int{0, 2, 4, 5}, false},
		{1000, []int{0, 1, 2}, true}, {1000, []int{3, 4}, true}, {1000, []int{0, 1, 3}, false}, {1000, []int{0, 1, 2, 3, 4, 5}, true},
	} {
		if ok := must[bool](t)(temple.IsGuard(l, c.tol, c.list)); ok != c.want {
			t.Errorf("%d, %v: %t", c.tol, c.list, ok)
		}
	}
	if !must[bool](t)(temple.IsGuard(nil, 0, nil)) || must[bool](t)(temple.IsGuard(many(60), 0, all(29))) || !must[bool](t)(temple.IsGuard(many(60), 0, all(59))) {
		t.Error("no temples, or most temples")
	}
}

// P4.4: an index that is none, or there twice.
func TestIsGuardErrors(t *testing.T) {
	for _, list := range [][]int{{5}, {-1}, {0, 5}, {0, 0}, {3, 1, 3}, {0, 1, 2, 3, 4, 0}, {64}, {1 << 32}, {math.MinInt}, {0, math.MaxInt}, make([]int, 100_000)} {
		for _, tol := range []int{2, -1} {
			if r := results(temple.IsGuard(many(5), tol, list)); !isError(r, api.ErrArg) {
				t.Errorf("%v: %v", list, r)
			}
		}
	}
	if r := results(temple.IsGuard(nil, 0, []int{0})); !isError(r, api.ErrArg) {
		t.Errorf("no temples: %v", r)
	}
	if r := results(temple.IsGuard(many(60), 0, []int{60})); !isError(r, api.ErrArg) {
		t.Errorf("an index beyond: %v", r)
	}
}

// P4.4, P4.8: Guard is a guard in ascending order, with as many elements as Most, and no guard has fewer.
func TestGuard(t *testing.T) {
	r := rand.New(rand.NewPCG(3, 4))
	mixed := 0
	for range 2000 {
		l, tol := randomTemples(r, 9)
		guard := must[[]int](t)(temple.Guard(l, tol))
		if !must[bool](t)(temple.IsGuard(l, tol, guard)) || !isGuardOf(l, tol, guard) || !isAscending(guard) {
			t.Fatalf("Guard(%v, %d): %v", l, tol, guard)
		}
		most := mostOf(l, tol)
		if len(guard) != most {
			t.Fatalf("Guard(%v, %d): %v, want %d", l, tol, guard, most)
		}
		least := len(l)
		for chosen := range 1 << len(l) {
			list := slices.DeleteFunc(all(len(l)), func(i int) bool { return chosen>>i&1 == 0 })
			ok := must[bool](t)(temple.IsGuard(l, tol, list))
			if ok != isGuardOf(l, tol, list) {
				t.Fatalf("IsGuard(%v, %d, %v): %t", l, tol, list, ok)
			}
			if ok {
				least = min(least, len(list))
			}
		}
		if least != most {
			t.Fatalf("%v, %d: %d pairs, but a guard of %d", l, tol, most, least)
		}
		if hasBothSides(l, guard) {
			mixed++
		}
	}
	if mixed < 100 {
		t.Errorf("only %d guards have both sides", mixed)
	}
}

func isAscending(list []int) bool {
	for n := range list[min(1, len(list)):] {
		if list[n] >= list[n+1] {
			return false
		}
	}
	return true
}

func hasBothSides(l []api.Temple, list []int) bool {
	has := func(side int) bool {
		return slices.ContainsFunc(list, func(i int) bool { return l[i].Side == side })
	}
	return has(api.SideLeft) && has(api.SideRight)
}

// P4.5: the least tolerance, and the errors in their order.
func TestTolerance(t *testing.T) {
	example := sides([]int{100, 104, 110}, []int{103, 112})
	far := sides([]int{1, 1}, []int{1001, 1002})
	for _, c := range []struct {
		l    []api.Temple
		n    int
		want int
	}{
		{nil, 0, 0}, {example, 0, 0}, {example, 1, 1}, {example, 2, 2}, {far, 0, 0}, {far, 1, 1000}, {many(60), 30, 0},
		{sides([]int{7, 500}, []int{7, 900}), 1, 0}, {sides([]int{7, 500}, []int{7, 900}), 2, 400},
	} {
		if tol := must[int](t)(temple.Tolerance(c.l, c.n)); tol != c.want {
			t.Errorf("%v, %d: %d", c.l, c.n, tol)
		}
	}
	for _, c := range []struct {
		l   []api.Temple
		n   int
		err api.Errno
	}{
		{example, -1, api.ErrArg}, {nil, math.MinInt, api.ErrArg}, {far, -1, api.ErrArg},
		{nil, 1, api.ErrLimit}, {example, 3, api.ErrLimit}, {far, 2, api.ErrLimit}, {many(60), 31, api.ErrLimit}, {example, math.MaxInt, api.ErrLimit},
		{[]api.Temple{left(1, 5, 1), right(2, 5, 2)}, 1, api.ErrLimit},
		{many(61), 0, api.ErrTemple}, {many(61), -1, api.ErrTemple}, {[]api.Temple{{}}, 5, api.ErrTemple},
	} {
		if r := results(temple.Tolerance(c.l, c.n)); !isError(r, c.err) {
			t.Errorf("%v, %d: %v, want %d", c.l, c.n, r, c.err)
		}
	}
}
