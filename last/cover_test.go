package last_test

import (
	"math"
	"math/rand/v2"
	"slices"
	"testing"

	"pantoscope/api"
	"pantoscope/last"
)

// P3.5: covers, by the sets that the sizes fit.
func TestCovers(t *testing.T) {
	sizes, people := system(10, []int{0, 1, 2, 3, 4}, []int{5, 6, 7}, []int{8, 9, 0}, nil, []int{0, 1, 2, 3, 4, 5, 6, 7, 8})
	for _, c := range []struct {
		list []int
		want bool
	}{
		{nil, false}, {[]int{0, 1, 2}, true}, {[]int{2, 0, 1}, true}, {[]int{3, 2, 1, 0}, true}, {[]int{0, 1}, false}, {[]int{0, 2}, false},
		{[]int{1, 2}, false}, {[]int{4}, false}, {[]int{4, 2}, true}, {[]int{0, 1, 3, 4}, false}, {[]int{0, 1, 2, 3, 4}, true},
	} {
		if ok := must[bool](t)(last.Covers(sizes, people, c.list)); ok != c.want {
			t.Errorf("%v: %t", c.list, ok)
		}
	}
	for _, list := range [][]int{nil, {}, {3}, {4, 0}} {
		if !must[bool](t)(last.Covers(sizes, nil, list)) {
			t.Errorf("no heads: %v", list)
		}
	}
	if !must[bool](t)(last.Covers(nil, nil, nil)) || must[bool](t)(last.Covers(nil, people, nil)) {
		t.Error("no sizes")
	}
}

// P3.5: heads that are apart, also of sizes that are not in use.
func TestApart(t *testing.T) {
	sizes, people := system(10, []int{0, 1}, []int{1, 2, 3}, []int{3, 9}, nil, []int{8})
	for _, c := range []struct {
		list []int
		want bool
	}{
		{nil, true}, {[]int{0}, true}, {[]int{0, 1}, false}, {[]int{1, 0}, false}, {[]int{0, 2}, true}, {[]int{2, 3}, false}, {[]int{3, 9}, false},
		{[]int{9, 2, 0, 8}, true}, {[]int{9, 2, 0, 8, 4, 5, 6, 7}, true}, {[]int{9, 2, 3, 8}, false}, {[]int{4, 5, 6, 7, 0, 8, 2, 1}, false},
	} {
		if ok := must[bool](t)(last.Apart(sizes, people, c.list)); ok != c.want {
			t.Errorf("%v: %t", c.list, ok)
		}
	}
	if !must[bool](t)(last.Apart(nil, people, all(10))) || !must[bool](t)(last.Apart(sizes, nil, nil)) || !must[bool](t)(last.Apart(nil, nil, []int{})) {
		t.Error("no sizes or no heads")
	}
}

// P3.5: indexes that are none, or there twice.
func TestIndexes(t *testing.T) {
	sizes, people := manySizes(4), manyHeads(4)
	for _, list := range [][]int{
		{4}, {-1}, {0, 4}, {-1, 0}, {0, 0}, {3, 1, 3}, {0, 1, 2, 3, 0}, {0, 1, 2, 3, 4}, {64}, {1 << 32}, {1<<32 + 1}, {math.MinInt}, {math.MaxInt}, {0, math.MinInt},
		make([]int, 100_000),
	} {
		for _, r := range [][]any{results(last.Covers(sizes, people, list)), results(last.Apart(sizes, people, list)), results(last.Covers(sizes, nil, list)), results(last.Apart(nil, people, list))} {
			if !isError(r, api.ErrArg) {
				t.Errorf("%v: %v", list, r)
			}
		}
	}
	for _, list := range [][]int{{0}, {-1}} {
		if r := results(last.Covers(nil, people, list)); !isError(r, api.ErrArg) {
			t.Errorf("no sizes, %v: %v", list, r)
		}
		if r := results(last.Apart(sizes, nil, list)); !isError(r, api.ErrArg) {
			t.Errorf("no heads, %v: %v", list, r)
		}
	}
	sizes, people = manySizes(api.MaxSizes), manyHeads(api.MaxHeads)
	if !must[bool](t)(last.Covers(sizes, people, []int{19})) || must[bool](t)(last.Apart(sizes, people, []int{39, 0})) || !must[bool](t)(last.Apart(sizes, people, []int{39})) {
		t.Error("the greatest indexes")
	}
	if r := results(last.Covers(sizes, people, []int{20})); !isError(r, api.ErrArg) {
		t.Errorf("an index of a head: %v", r)
	}
	if r := results(last.Apart(sizes, people, []int{40})); !isError(r, api.ErrArg) {
		t.Errorf("an index beyond: %v", r)
	}
}

// P3.6: what Greedy takes, and Cover; ties; the chapter's example 3 is the last one.
func TestGreedyAndCover(t *testing.T) {
	for name, c := range map[string]struct {
		n             int
		sets          [][]int
		greedy, cover []int
	}{
		"one":                    {1, [][]int{{0}}, []int{0}, []int{0}},
		"the most, first":        {4, [][]int{{0}, {1, 2}, {3, 0}}, []int{1, 2}, []int{1, 2}},
		"a tie":                  {2, [][]int{nil, {0, 1}, {0, 1}}, []int{1}, []int{1}},
		"in the order of taking": {6, [][]int{{0}, {1, 2}, {3, 4, 5}}, []int{2, 1, 0}, []int{0, 1, 2}},
		"most of those left":     {6, [][]int{{0, 1, 2, 3}, {1, 2, 3, 4}, {4, 5}}, []int{0, 2}, []int{0, 2}},
		"greedy takes more":      {6, [][]int{{0, 1, 2}, {3, 4, 5}, {1, 2, 3, 4}}, []int{2, 0, 1}, []int{0, 1}},
		"number by number":       {4, [][]int{{0, 1}, {0, 2}, {1, 3}, {2, 3}}, []int{0, 3}, []int{0, 3}},
		"the first of pairs":     {4, [][]int{nil, {2, 3}, {0, 1}, {0, 2}, {1, 3}}, []int{1, 2}, []int{1, 2}},
		"later but fewer":        {3, [][]int{{0}, {1}, {2}, {0, 1, 2}}, []int{3}, []int{3}},
		"tie in the second":      {4, [][]int{{0, 1}, {2}, {2, 3}, {3, 2}}, []int{0, 2}, []int{0, 2}},
		"two of three":           {3, [][]int{{0, 1}, {1, 2}, {0, 2}}, []int{0, 1}, []int{0, 1}},
	} {
		sizes, people := system(c.n, c.sets...)
		if got := must[[]int](t)(last.Greedy(sizes, people)); !slices.Equal(got, c.greedy) {
			t.Errorf("Greedy, %s: %v", name, got)
		}
		if got := must[[]int](t)(last.Cover(sizes, people)); !slices.Equal(got, c.cover) {
			t.Errorf("Cover, %s: %v", name, got)
		}
	}
}

// The chapter's example 3: no two of the heads are apart, but one size is not enough.
func TestThreeHeads(t *testing.T) {
	sizes, people := system(3, []int{0, 1}, []int{1, 2}, []int{0, 2})
	if got := must[[]int](t)(last.Cover(sizes, people)); len(got) != 2 {
		t.Errorf("Cover: %v", got)
	}
	for _, pair := range choices(0, 3, 2) {
		if must[bool](t)(last.Apart(sizes, people, pair)) {
			t.Errorf("%v are apart", pair)
		}
	}
}

// P3.6: without heads both are empty.
func TestNoHeads(t *testing.T) {
	for _, sizes := range [][]api.Size{nil, {}, manySizes(1), manySizes(api.MaxExact)} {
		for _, people := range [][]api.Head{nil, {}} {
			if g, c := must[[]int](t)(last.Greedy(sizes, people)), must[[]int](t)(last.Cover(sizes, people)); len(g) != 0 || len(c) != 0 {
				t.Errorf("%d sizes: %v, %v", len(sizes), g, c)
			}
		}
	}
	if g := must[[]int](t)(last.Greedy(manySizes(api.MaxSizes), nil)); len(g) != 0 {
		t.Errorf("most sizes: %v", g)
	}
}

// P3.6: a head that no size fits, and too many sizes for Cover, which comes first.
func TestOpen(t *testing.T) {
	sizes, people := system(3, []int{0}, []int{2})
	for name, list := range map[string][]api.Size{"one is open": sizes, "none": nil} {
		for _, r := range [][]any{results(last.Greedy(list, people)), results(last.Cover(list, people))} {
			if !isError(r, api.ErrOpen) {
				t.Errorf("%s: %v", name, r)
			}
		}
	}
	many := manySizes(api.MaxExact + 1)
	for _, hs := range [][]api.Head{nil, people, manyHeads(api.MaxHeads)} {
		if r := results(last.Cover(many, hs)); !isError(r, api.ErrLimit) {
			t.Errorf("13 sizes, %d heads: %v", len(hs), r)
		}
	}
	for i := range many {
		many[i] = size(i+1, 5, 6, 0, 0)
	}
	if r := results(last.Cover(many, people)); !isError(r, api.ErrLimit) {
		t.Errorf("13 sizes and an open head: %v", r)
	}
	if r := results(last.Greedy(many, people)); !isError(r, api.ErrOpen) {
		t.Errorf("13 sizes and an open head: %v", r)
	}
}

// greedyOf takes sizes as the chapter says.
func greedyOf(sizes []api.Size, people []api.Head) []int {
	left := slices.Clone(people)
	var taken []int
	for len(left) > 0 {
		best, most := 0, 0
		for i, s := range sizes {
			n := 0
			for _, h := range left {
				if fitsOf(s, h) {
					n++
				}
			}
			if n > most {
				best, most = i, n
			}
		}
		taken = append(taken, best)
		left = slices.DeleteFunc(left, func(h api.Head) bool { return fitsOf(sizes[best], h) })
	}
	return taken
}

// coverOf looks for the first cover, those with the fewest sizes first.
func coverOf(sizes []api.Size, people []api.Head) []int {
	for k := range len(sizes) + 1 {
		for _, list := range choices(0, len(sizes), k) {
			if coversOf(sizes, people, list) {
				return list
			}
		}
	}
	return nil
}

// P3.6: many lists, by the terms of the chapter.
func TestGreedyAndCoverMany(t *testing.T) {
	r := rand.New(rand.NewPCG(9, 10))
	lengths := map[int]int{}
	for n := range 1500 {
		sizes, people := randomSystem(r, r.IntN(9), 1+r.IntN(8))
		if n%3 == 0 {
			sizes, people = randomLists(r, 1+r.IntN(9), r.IntN(6))
		}
		g, ge := last.Greedy(sizes, people)
		c, ce := last.Cover(sizes, people)
		if !coversOf(sizes, people, all(len(sizes))) {
			if len(g) != 0 || len(c) != 0 || ge != api.ErrOpen || ce != api.ErrOpen {
				t.Fatalf("%v, %v: %v, %d and %v, %d", sizes, people, g, ge, c, ce)
			}
			continue
		}
		if want := greedyOf(sizes, people); !slices.Equal(g, want) || ge != api.OK {
			t.Fatalf("Greedy(%v, %v): %v, want %v", sizes, people, g, want)
		}
		if want := coverOf(sizes, people); !slices.Equal(c, want) || ce != api.OK {
			t.Fatalf("Cover(%v, %v): %v, want %v", sizes, people, c, want)
		}
		if !must[bool](t)(last.Covers(sizes, people, c)) || !must[bool](t)(last.Covers(sizes, people, g)) {
			t.Fatalf("Covers(%v, %v) of %v and %v", sizes, people, g, c)
		}
		lengths[len(c)]++
	}
	for k := range 4 {
		if lengths[k] < 10 {
			t.Errorf("%d covers of %d sizes", lengths[k], k)
		}
	}
}

// P3.6: the greatest lists that are possible.
func TestGreatestCover(t *testing.T) {
	var sizes []api.Size
	for i := range api.MaxSizes {
		sizes = append(sizes, size(100-i, 20*i, 20*i+10, 5, 5))
	}
	var bridges []int
	for j := range api.MaxHeads {
		bridges = append(bridges, 10*(j%24))
	}
	if g := must[[]int](t)(last.Greedy(sizes, heads(bridges...))); !slices.Equal(g, []int{0, 1, 2, 3, 4, 5, 6, 7, 8, 9, 10, 11}[:12]) {
		t.Errorf("Greedy: %v", g)
	}
	if c := must[[]int](t)(last.Cover(sizes[:12], heads(bridges...))); !slices.Equal(c, all(12)) {
		t.Errorf("Cover: %v", c)
	}
	if r := results(last.Cover(sizes[:11], heads(bridges...))); !isError(r, api.ErrOpen) {
		t.Errorf("Cover of 11: %v", r)
	}
	if g := must[[]int](t)(last.Greedy(slices.Concat(manySizes(19), sizes[:1]), manyHeads(api.MaxHeads))); !slices.Equal(g, []int{0}) {
		t.Errorf("Greedy of equal sizes: %v", g)
	}
}
