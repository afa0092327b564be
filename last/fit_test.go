package last_test

import (
	"math"
	"math/rand/v2"
	"slices"
	"testing"

	"pantoscope/api"
	"pantoscope/last"
)

// P3.2: what is valid, also at the borders.
func TestValid(t *testing.T) {
	top := api.Head{Number: 1_000_000_000, M: [5]int{3000, 3000, 3000, 3000, 3000}}
	for name, list := range map[string][]api.Head{
		"nil": nil, "none": {}, "one": {head(1)}, "borders": {top, head(1)}, "equal measures": {head(5, 1, 2), head(4, 1, 2)}, "most": manyHeads(api.MaxHeads),
	} {
		if !last.ValidHeads(list) {
			t.Errorf("heads: %s", name)
		}
	}
	full := api.Size{Code: 1_000_000_000, From: top.M, To: top.M, Bend: [5]int{100, 100, 100, 100, 100}, Total: 500}
	for name, list := range map[string][]api.Size{
		"nil": nil, "none": {}, "one": {wide(1)}, "borders": {full, {Code: 1}}, "equal but for the code": {wide(8), wide(7)}, "most": manySizes(api.MaxSizes),
	} {
		if !last.ValidSizes(list) {
			t.Errorf("sizes: %s", name)
		}
	}
}

// P3.2: what is not valid.
func TestNotValid(t *testing.T) {
	for _, list := range badHeadLists() {
		if last.ValidHeads(list) {
			t.Errorf("heads: %v", list)
		}
	}
	for _, list := range badSizeLists() {
		if last.ValidSizes(list) {
			t.Errorf("sizes: %v", list)
		}
	}
}

// R4: lists are read up to their length alone.
func TestValidUpToLength(t *testing.T) {
	if !last.ValidHeads(append(heads(1, 2), api.Head{})[:2]) || !last.ValidSizes(append(manySizes(2), wide(1))[:2]) {
		t.Error("an element beyond the length is read")
	}
}

// P3.2: needs, fits and faults, also of the chapter's example 1.
func TestFaults(t *testing.T) {
	narrow := api.Size{Code: 9, From: [5]int{100, 200, 300, 400, 500}, To: [5]int{110, 210, 310, 410, 510}, Bend: [5]int{5, 6, 7, 8, 9}, Total: 20}
	for name, c := range map[string]struct {
		s      api.Size
		h      api.Head
		need   [5]int
		faults []int
	}{
		"within":           {size(1, 160, 200, 20, 30), head(1, 180), [5]int{}, nil},
		"at From":          {size(1, 160, 200, 0, 0), head(1, 160), [5]int{}, nil},
		"at To":            {size(1, 160, 200, 0, 0), head(1, 200), [5]int{}, nil},
		"example":          {size(1, 160, 200, 20, 30), head(1, 215), [5]int{15}, nil},
		"example too wide": {size(1, 160, 200, 20, 30), head(1, 225), [5]int{25}, []int{0}},
		"example in total": {size(1, 160, 200, 20, 10), head(1, 215), [5]int{15}, []int{5}},
		"both":             {size(1, 160, 200, 20, 10), head(1, 225), [5]int{25}, []int{0, 5}},
		"just bent below":  {size(1, 160, 200, 20, 20), head(1, 140), [5]int{20}, nil},
		"bent too low":     {size(1, 160, 200, 20, 21), head(1, 139), [5]int{21}, []int{0}},
		"just bent above":  {size(1, 160, 200, 20, 20), head(1, 220), [5]int{20}, nil},
		"bent too high":    {size(1, 160, 200, 20, 21), head(1, 221), [5]int{21}, []int{0}},
		"just in total":    {narrow, head(1, 105, 200, 311, 418, 511+10), [5]int{0, 0, 1, 8, 11}, []int{4}},
		"below and above":  {narrow, head(1, 95, 216, 293, 410, 512), [5]int{5, 6, 7, 0, 2}, nil},
		"one too much":     {narrow, head(1, 95, 216, 293, 411, 512), [5]int{5, 6, 7, 1, 2}, []int{5}},
		"all of them":      {narrow, head(1), [5]int{100, 200, 300, 400, 500}, []int{0, 1, 2, 3, 4, 5}},
		"far":              {api.Size{Code: 1}, head(1, 3000, 3000, 3000, 3000, 3000), [5]int{3000, 3000, 3000, 3000, 3000}, []int{0, 1, 2, 3, 4, 5}},
		"some":             {narrow, head(1, 116, 210, 310, 419, 510), [5]int{6, 0, 0, 9, 0}, []int{0, 3}},
	} {
		if n := must[[5]int](t)(last.Need(c.s, c.h)); n != c.need {
			t.Errorf("Need, %s: %v", name, n)
		}
		if f := must[[]int](t)(last.Faults(c.s, c.h)); !slices.Equal(f, c.faults) {
			t.Errorf("Faults, %s: %v", name, f)
		}
		if ok := must[bool](t)(last.Fits(c.s, c.h)); ok != (len(c.faults) == 0) {
			t.Errorf("Fits, %s: %t", name, ok)
		}
	}
}

// P3.3: the least needs, and of several sizes the least code.
func TestChoose(t *testing.T) {
	low, high := size(5, 100, 110, 10, 10), size(4, 120, 130, 10, 10)
	for name, c := range map[string]struct {
		sizes  []api.Size
		bridge int
		want   int
	}{
		"nearer to the first":       {[]api.Size{low, high}, 114, 0},
		"nearer to the second":      {[]api.Size{low, high}, 116, 1},
		"a tie, the second":         {[]api.Size{low, high}, 115, 1},
		"a tie, the first":          {[]api.Size{high, low}, 115, 0},
		"a tie, in the middle":      {[]api.Size{wide(9), wide(3), wide(6)}, 7, 1},
		"a lesser code, more needs": {[]api.Size{size(1, 100, 110, 10, 10), wide(2)}, 111, 1},
		"nearer but too far bent":   {[]api.Size{size(1, 100, 110, 4, 10), size(2, 125, 130, 10, 10)}, 115, 1},
		"nearer but too much":       {[]api.Size{size(1, 100, 110, 10, 4), size(2, 125, 130, 10, 10)}, 115, 1},
		"the only one":              {[]api.Size{size(1, 100, 100, 0, 0), size(2, 102, 102, 0, 0)}, 102, 1},
	} {
		if i := must[int](t)(last.Choose(c.sizes, head(1, c.bridge))); i != c.want {
			t.Errorf("%s: %d", name, i)
		}
	}
	for name, list := range map[string][]api.Size{"none": nil, "none that fits": {low, high}} {
		if r := results(last.Choose(list, head(1, 150))); !isError(r, api.ErrOpen) {
			t.Errorf("%s: %v", name, r)
		}
	}
	for _, list := range badSizeLists() {
		if r := results(last.Choose(list, head(1))); !isError(r, api.ErrSize) {
			t.Errorf("%v: %v", list, r)
		}
	}
}

// P3.3: needs of different measures are added.
func TestChooseBySum(t *testing.T) {
	once, twice := size(2, 10, 20, 20, 20), size(1, 10, 20, 20, 20)
	twice.From[1], twice.Bend[1] = 4, 20
	for bridge, want := range map[int]int{24: 1, 22: 1, 20: 1} {
		if i := must[int](t)(last.Choose([]api.Size{twice, once}, head(1, bridge, 3))); i != want {
			t.Errorf("%d: %d", bridge, i)
		}
	}
	if i := must[int](t)(last.Choose([]api.Size{once, twice}, head(1, 24, 4))); i != 1 {
		t.Errorf("equal sums: %d", i)
	}
}

// P3.3: many choices, by the terms of the chapter.
func TestChooseMany(t *testing.T) {
	r := rand.New(rand.NewPCG(5, 6))
	found := 0
	for range 3000 {
		sizes, people := randomLists(r, r.IntN(8), 1)
		best, least := -1, math.MaxInt
		for i, s := range sizes {
			n := must[[5]int](t)(last.Need(s, people[0]))
			if rank := (n[0]+n[1]+n[2]+n[3]+n[4])*100 + s.Code; fitsOf(s, people[0]) && rank < least {
				best, least = i, rank
			}
		}
		i, e := last.Choose(sizes, people[0])
		if best < 0 && (i != 0 || e != api.ErrOpen) || best >= 0 && (i != best || e != api.OK) {
			t.Fatalf("Choose(%v, %v): %d, %d, want %d", sizes, people, i, e, best)
		}
		if best >= 0 {
			found++
		}
	}
	if found < 500 {
		t.Errorf("only %d choices", found)
	}
}

// P3.3: what each size fits.
func TestFitted(t *testing.T) {
	sizes := []api.Size{size(3, 10, 20, 0, 0), size(1, 90, 95, 1, 1), size(2, 15, 40, 5, 3)}
	got := must[[][]int](t)(last.Fitted(sizes, heads(40, 20, 43, 10, 12, 44)))
	if want := [][]int{{1, 3, 4}, {}, {0, 1, 2, 4}}; !slices.EqualFunc(got, want, slices.Equal) {
		t.Errorf("%v", got)
	}
	for name, list := range map[string][]api.Head{"nil": nil, "none": {}} {
		if got := must[[][]int](t)(last.Fitted(sizes, list)); !slices.EqualFunc(got, make([][]int, 3), slices.Equal) {
			t.Errorf("%s: %v", name, got)
		}
	}
	if got := must[[][]int](t)(last.Fitted(nil, heads(1))); len(got) != 0 {
		t.Errorf("no sizes: %v", got)
	}
	r := rand.New(rand.NewPCG(7, 8))
	for range 300 {
		sizes, people := randomLists(r, r.IntN(api.MaxSizes+1), r.IntN(api.MaxHeads+1))
		for i, list := range must[[][]int](t)(last.Fitted(sizes, people)) {
			for j, h := range people {
				if slices.Contains(list, j) != fitsOf(sizes[i], h) || !slices.IsSorted(list) {
					t.Fatalf("size %v, heads %v: %v", sizes[i], people, list)
				}
			}
		}
	}
}

// P3.4: sizes n steps greater or less.
func TestGrade(t *testing.T) {
	s := api.Size{Code: 50, From: [5]int{100, 200, 300, 400, 500}, To: [5]int{110, 210, 310, 410, 510}, Bend: [5]int{1, 2, 3, 4, 5}, Total: 6}
	step := [5]int{1, 0, -20, 30, -4}
	up := api.Size{Code: 53, From: [5]int{103, 200, 240, 490, 488}, To: [5]int{113, 210, 250, 500, 498}, Bend: s.Bend, Total: 6}
	down := api.Size{Code: 30, From: [5]int{300, 400, 500, 200, 100}, To: [5]int{310, 410, 510, 210, 110}, Bend: s.Bend, Total: 6}
	for _, c := range []struct {
		step [5]int
		n    int
		want api.Size
	}{{step, 3, up}, {step, 0, s}, {[5]int{-10, -10, -10, 10, 20}, -20, down}} {
		if got := must[api.Size](t)(last.Grade(s, c.step, c.n)); got != c.want {
			t.Errorf("%v by %d: %v", c.step, c.n, got)
		}
	}
}

// P3.4: the greatest steps and results, and what is beyond them.
func TestGradeBorders(t *testing.T) {
	with := func(i, d int) (step [5]int) {
		step[i] = d
		return step
	}
	s := api.Size{Code: 50, From: [5]int{1000, 1000, 1000, 1000, 1000}, To: [5]int{2000, 2000, 2000, 2000, 2000}}
	top := s
	top.Code = 999_999_990
	for i := range 5 {
		for _, c := range []struct {
			s    api.Size
			d, n int
			ok   bool
		}{
			{s, 300, 3, true}, {s, -300, -3, true}, {s, 300, -3, true}, {s, -300, 3, true}, {s, 300, 0, true},
			{s, 301, 1, false}, {s, -301, 1, false}, {s, 301, 0, false}, {s, -301, 0, false},
			{s, 0, 20, true}, {s, 0, -20, true}, {s, 0, 21, false}, {s, 0, -21, false}, {s, 1, 21, false},
			{s, 50, 20, true}, {s, 51, 20, false}, {s, 50, -20, true}, {s, 51, -20, false}, {s, -50, 20, true}, {s, -51, 20, false},
			{s, 300, 4, false}, {s, 300, -4, false},
			{s, math.MaxInt, 2, false}, {s, math.MinInt, 2, false}, {s, 0, math.MaxInt, false}, {s, 0, math.MinInt, false},
			{s, math.MinInt, math.MinInt, false}, {s, 1 << 62, 4, false}, {s, 4, 1 << 62, false},
			{top, 0, 10, true}, {top, 0, 11, false},
			{wide(1), 0, -1, false}, {wide(2), 0, -1, true}, {wide(9), 1, 1, false}, {wide(9), 1, -1, false}, {wide(9), 0, 1, true},
		} {
			r := results(last.Grade(c.s, with(i, c.d), c.n))
			if c.ok != (r[1] == api.OK) || !c.ok && !isError(r, api.ErrArg) {
				t.Errorf("Code %d, measure %d, step %d, n %d: %v", c.s.Code, i, c.d, c.n, r)
			}
		}
	}
	for name, bad := range badSizes() {
		for _, n := range []int{0, 1, -1, 21, math.MinInt} {
			if r := results(last.Grade(bad, [5]int{301}, n)); !isError(r, api.ErrSize) {
				t.Errorf("%s: %v", name, r)
			}
			if r := results(last.Grade(bad, [5]int{}, n)); !isError(r, api.ErrSize) {
				t.Errorf("%s: %v", name, r)
			}
		}
	}
}
