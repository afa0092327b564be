package last_test

import (
	"math"
	"math/rand/v2"
	"slices"
	"testing"

	"pantoscope/api"
	"pantoscope/last"
)

const million = 1_000_000

// P3.7: also the chapter's example 2, values in any order, equal values, and the borders.
func TestStabAndSpread(t *testing.T) {
	for name, c := range map[string]struct {
		values       []int
		width        int
		stab, spread []int
	}{
		"example":       {[]int{1, 2, 4, 7, 8}, 3, []int{1, 5}, []int{1, 7}},
		"in any order":  {[]int{7, 2, 8, 1, 4, 2, 7}, 3, []int{1, 5}, []int{1, 7}},
		"nil":           {nil, 3, nil, nil},
		"none":          {[]int{}, 0, nil, nil},
		"one":           {[]int{5}, 2, []int{3}, []int{5}},
		"no width":      {[]int{3, 1, 2, 3}, 0, []int{1, 2, 3}, []int{1, 2, 3}},
		"just within":   {[]int{0, 10}, 10, []int{0}, []int{0}},
		"just beyond":   {[]int{0, 11}, 10, []int{-10, 1}, []int{0, 11}},
		"in a chain":    {[]int{0, 3, 6, 9, 12, 15}, 5, []int{-2, 4, 10}, []int{0, 6, 12}},
		"below 0":       {[]int{-1, -4, -9}, 3, []int{-12, -4}, []int{-9, -4}},
		"borders":       {[]int{-million, million}, million, []int{-2 * million, 0}, []int{-million, million}},
		"in the middle": {[]int{-million, 0, million}, million, []int{-2 * million, 0}, []int{-million, million}},
		"most":          {make([]int, api.MaxValues), 0, []int{0}, []int{0}},
	} {
		if got := must[[]int](t)(last.Stab(c.values, c.width)); !slices.Equal(got, c.stab) {
			t.Errorf("Stab, %s: %v", name, got)
		}
		if got := must[[]int](t)(last.Spread(c.values, c.width)); !slices.Equal(got, c.spread) {
			t.Errorf("Spread, %s: %v", name, got)
		}
		if !must[bool](t)(last.Stabbed(c.values, c.width, c.stab)) {
			t.Errorf("Stabbed, %s", name)
		}
	}
}

// P3.7: whether each value lies within one of the sizes.
func TestStabbed(t *testing.T) {
	for _, c := range []struct {
		values []int
		width  int
		list   []int
		want   bool
	}{
		{nil, 0, nil, true}, {[]int{}, 5, []int{7}, true}, {[]int{1}, 5, nil, false}, {[]int{1}, 5, []int{}, false},
		{[]int{1, 2, 4, 7, 8}, 3, []int{5, 1}, true}, {[]int{1, 2, 4, 7, 8}, 3, []int{1, 6}, true}, {[]int{1, 2, 4, 7, 8}, 3, []int{1, 7}, true}, {[]int{1, 2, 4, 7, 8}, 3, []int{1, 8}, false},
		{[]int{1, 2, 4, 7, 8}, 3, []int{5, 2}, false}, {[]int{1, 2, 4, 7, 8}, 3, []int{1, 4}, false}, {[]int{1, 2, 4, 7, 8}, 2, []int{1, 7}, false},
		{[]int{1, 2, 4, 7, 8}, 3, []int{5, 5, 1, 1}, true}, {[]int{-3, 3}, 0, []int{3, -3}, true}, {[]int{-3, 3}, 0, []int{3}, false},
		{[]int{-million, million}, million, []int{-2 * million, million}, true}, {[]int{-million, million}, million, []int{-2 * million, 0}, true}, {[]int{-million, million}, million, []int{-2 * million, -1}, false},
		{[]int{-million + 1}, million, []int{-2 * million}, false},
	} {
		if ok := must[bool](t)(last.Stabbed(c.values, c.width, c.list)); ok != c.want {
			t.Errorf("%v, %d, %v: %t", c.values, c.width, c.list, ok)
		}
	}
	if !must[bool](t)(last.Stabbed(make([]int, api.MaxValues), 0, make([]int, api.MaxValues))) {
		t.Error("the longest lists")
	}
}

// P3.7: ErrLimit, then ErrArg.
func TestErrorsOfValues(t *testing.T) {
	long := make([]int, api.MaxValues+1)
	bad := []int{0, million + 1}
	wrong := slices.Concat(bad, long)
	for _, c := range []struct {
		values []int
		width  int
		list   []int
		err    api.Errno
	}{
		{long, 0, nil, api.ErrLimit}, {wrong, 0, nil, api.ErrLimit}, {long, -1, bad, api.ErrLimit}, {make([]int, 100_000), 0, nil, api.ErrLimit},
		{[]int{1}, 0, long, api.ErrLimit}, {bad, -1, long, api.ErrLimit}, {nil, 0, wrong, api.ErrLimit}, {long, 0, long, api.ErrLimit},
		{bad, 0, nil, api.ErrArg}, {[]int{-million - 1}, 0, nil, api.ErrArg}, {[]int{0, 0, math.MinInt}, 0, nil, api.ErrArg}, {[]int{math.MaxInt, 0}, 0, nil, api.ErrArg},
		{nil, -1, nil, api.ErrArg}, {nil, million + 1, nil, api.ErrArg}, {nil, math.MinInt, nil, api.ErrArg}, {[]int{1}, math.MaxInt, nil, api.ErrArg}, {bad, -1, nil, api.ErrArg},
		{nil, 0, []int{million + 1}, api.ErrArg}, {nil, 0, []int{0, -2*million - 1}, api.ErrArg}, {nil, 0, []int{math.MinInt}, api.ErrArg}, {[]int{0}, 0, []int{0, math.MaxInt}, api.ErrArg},
	} {
		if r := results(last.Stabbed(c.values, c.width, c.list)); !isError(r, c.err) {
			t.Errorf("Stabbed(%v, %d, %v): %v", c.values, c.width, c.list, r)
		}
		if len(c.list) > 0 {
			continue
		}
		for _, r := range [][]any{results(last.Stab(c.values, c.width)), results(last.Spread(c.values, c.width))} {
			if !isError(r, c.err) {
				t.Errorf("%v, %d: %v", c.values, c.width, r)
			}
		}
	}
}

func randomValues(r *rand.Rand, n, most int) []int {
	var values []int
	for range n {
		values = append(values, r.IntN(2*most+1)-most)
	}
	return values
}

// leastStabs is the least number of sizes that cover values. Sizes that end with a value are enough.
func leastStabs(values []int, width int) int {
	for k := range len(values) {
		for _, ends := range choices(0, len(values), k) {
			uncovered := func(v int) bool {
				return !slices.ContainsFunc(ends, func(i int) bool { return values[i]-width <= v && v <= values[i] })
			}
			if !slices.ContainsFunc(values, uncovered) {
				return k
			}
		}
	}
	return len(values)
}

// mostSpread is the greatest number of values that are pairwise farther apart than a width.
func mostSpread(values []int, width int) int {
	for k := len(values); k > 0; k-- {
		for _, list := range choices(0, len(values), k) {
			if isSpread(values, width, list) {
				return k
			}
		}
	}
	return 0
}

func isSpread(values []int, width int, list []int) bool {
	for n, i := range list {
		for _, j := range list[:n] {
			if values[i]-values[j] <= width && values[j]-values[i] <= width {
				return false
			}
		}
	}
	return true
}

// P3.10: Stab covers all values, with as many elements as Spread; fewer would not do, and more are not apart.
func TestOneMeasure(t *testing.T) {
	r := rand.New(rand.NewPCG(11, 12))
	for range 2000 {
		values, width := randomValues(r, r.IntN(9), 1+r.IntN(30)), r.IntN(12)
		stab, spread := must[[]int](t)(last.Stab(values, width)), must[[]int](t)(last.Spread(values, width))
		if !must[bool](t)(last.Stabbed(values, width, stab)) {
			t.Fatalf("Stab(%v, %d): %v", values, width, stab)
		}
		if least, most := leastStabs(values, width), mostSpread(values, width); len(stab) != least || len(spread) != most || least != most {
			t.Fatalf("%v, %d: %v and %v, want %d and %d", values, width, stab, spread, least, most)
		}
		for n, s := range stab {
			if !slices.Contains(values, s+width) || n > 0 && stab[n-1]+width >= s {
				t.Fatalf("Stab(%v, %d): %v", values, width, stab)
			}
		}
		for n, v := range spread {
			if !slices.Contains(values, v) || n > 0 && spread[n-1]+width >= v || n == 0 && v != slices.Min(values) {
				t.Fatalf("Spread(%v, %d): %v", values, width, spread)
			}
		}
	}
}

// P3.10: long lists of great values.
func TestOneMeasureLong(t *testing.T) {
	r := rand.New(rand.NewPCG(13, 14))
	for range 500 {
		values, width := randomValues(r, 1+r.IntN(api.MaxValues), million), r.IntN([]int{100, 100_000, million + 1}[r.IntN(3)])
		stab, spread := must[[]int](t)(last.Stab(values, width)), must[[]int](t)(last.Spread(values, width))
		if !must[bool](t)(last.Stabbed(values, width, stab)) || len(stab) != len(spread) || !isSpread(spread, width, all(len(spread))) {
			t.Fatalf("%v, %d: %v and %v", values, width, stab, spread)
		}
		if must[bool](t)(last.Stabbed(values, width, stab[1:])) || must[bool](t)(last.Stabbed(values, width, stab[:len(stab)-1])) {
			t.Fatalf("%v, %d: not all of %v are needed", values, width, stab)
		}
	}
}
