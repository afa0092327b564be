package barrel_test

import (
	"math"
	"math/rand/v2"
	"testing"

	"pantoscope/api"
	"pantoscope/barrel"
)

// P6.2: what is valid, also at the borders.
func TestValid(t *testing.T) {
	least, most := api.Batch{Number: 1}, batch(1_000_000_000, 9, 9, 100)
	for name, l := range map[string][]api.Batch{
		"nil": nil, "none": {}, "example": example(), "least": {least}, "most": {most}, "both": {most, least}, "longest": equals(40),
		"dark alone": {{Number: 1, Dark: 9}}, "coarse alone": {{Number: 1, Grain: 9}}, "long alone": {{Number: 1, Hours: [4]int{0, 100, 0, 100}}},
	} {
		if !barrel.Valid(l) {
			t.Errorf("not valid: %s", name)
		}
	}
	for _, l := range badLists() {
		if barrel.Valid(l) {
			t.Errorf("valid: %v", l)
		}
	}
}

// P6.2: at least as dark and at least as coarse, whatever the Numbers and the hours are.
func TestMay(t *testing.T) {
	for _, c := range []struct {
		a, b api.Batch
		want bool
	}{
		{batch(1, 3, 3, 1), batch(2, 3, 3, 1), true}, {batch(2, 3, 3, 9), batch(1, 3, 3, 0), true}, {batch(1, 3, 3, 1), batch(1, 3, 3, 1), true},
		{batch(1, 3, 3, 1), batch(2, 4, 3, 1), true}, {batch(1, 3, 3, 1), batch(2, 3, 4, 1), true}, {batch(1, 3, 3, 1), batch(2, 4, 4, 1), true},
		{batch(1, 3, 3, 1), batch(2, 2, 3, 1), false}, {batch(1, 3, 3, 1), batch(2, 3, 2, 1), false}, {batch(1, 3, 3, 1), batch(2, 2, 2, 1), false},
		{batch(1, 3, 3, 1), batch(2, 2, 4, 1), false}, {batch(1, 3, 3, 1), batch(2, 4, 2, 1), false}, {batch(1, 0, 0, 1), batch(1, 9, 9, 1), true}, {batch(1, 9, 9, 1), batch(1, 0, 0, 1), false},
	} {
		if ok := must[bool](t)(barrel.May(c.a, c.b)); ok != c.want {
			t.Errorf("%v, %v: %t", c.a, c.b, ok)
		}
	}
	for _, b := range badBatches() {
		for _, r := range [][]any{results(barrel.May(b, batch(1, 9, 9, 1))), results(barrel.May(batch(1, 0, 0, 1), b)), results(barrel.May(b, b))} {
			if !isError(r, api.ErrBatch) {
				t.Errorf("%v: %v", b, r)
			}
		}
	}
}

// P6.2: the errors, each looked for in all rows before the next one.
func TestCheck(t *testing.T) {
	l := example()
	for _, c := range []struct {
		rows [][]int
		err  api.Errno
	}{
		{[][]int{{0, 3}, {1, 2}}, api.OK}, {[][]int{{1, 2, 3}, {0}}, api.OK}, {[][]int{{3}, {2}, {1}, {0}}, api.OK}, {[][]int{{1}, {0, 3}, {2}}, api.OK},
		{[][]int{{0, 3}, {1, 4}}, api.ErrArg}, {[][]int{{0, 3}, {-1, 2}}, api.ErrArg}, {[][]int{{math.MinInt}}, api.ErrArg}, {[][]int{{0, math.MaxInt}}, api.ErrArg}, {[][]int{{1 << 32}}, api.ErrArg},
		{[][]int{{0, 0}, {4}}, api.ErrArg}, {[][]int{{1, 0}, {2, 4}}, api.ErrArg}, {[][]int{{}, {-1}}, api.ErrArg},
		{[][]int{{0, 3}, {1, 2, 0}}, api.ErrTwice}, {[][]int{{0, 3}, {1, 2}, {2}}, api.ErrTwice}, {[][]int{{0, 0}}, api.ErrTwice}, {[][]int{{1, 0}, {2, 2}}, api.ErrTwice}, {[][]int{{1, 0}, {1, 2}}, api.ErrTwice}, {[][]int{{}, {3, 3}}, api.ErrTwice},
		{[][]int{{0, 1}, {2, 3}}, api.ErrDirty}, {[][]int{{3, 0}, {1, 2}}, api.ErrDirty}, {[][]int{{}, {0, 3}, {2, 1}}, api.ErrDirty}, {[][]int{{1, 2, 0}}, api.ErrDirty}, {[][]int{{1, 0, 2}, {3}}, api.ErrDirty}, {[][]int{{0, 2}}, api.ErrDirty},
		{nil, api.ErrLimit}, {[][]int{}, api.ErrLimit}, {[][]int{{0, 3}, {1}}, api.ErrLimit}, {[][]int{{0, 3}, {2}}, api.ErrLimit}, {[][]int{{1, 2, 3}}, api.ErrLimit}, {[][]int{{0}, {1, 2}}, api.ErrLimit},
		{[][]int{{0, 3}, {}, {1, 2}}, api.ErrLimit}, {[][]int{nil, {0, 3}, {1, 2}}, api.ErrLimit}, {[][]int{{0, 3}, {1, 2}, {}}, api.ErrLimit}, {make([][]int, 100_000), api.ErrLimit},
	} {
		if err := barrel.Check(l, c.rows); err != c.err {
			t.Errorf("%v: %d, want %d", c.rows, err, c.err)
		}
	}
	for _, c := range []struct {
		l    []api.Batch
		rows [][]int
		err  api.Errno
	}{
		{nil, nil, api.OK}, {nil, [][]int{}, api.OK}, {nil, [][]int{{}}, api.ErrLimit}, {nil, [][]int{{0}}, api.ErrArg}, {nil, [][]int{{-1}}, api.ErrArg},
		{equals(40), [][]int{all(40)}, api.OK}, {equals(40), [][]int{all(39)}, api.ErrLimit}, {equals(40), [][]int{all(41)}, api.ErrArg}, {equals(2), [][]int{{1, 0}}, api.OK}, {equals(1), [][]int{make([]int, 100_000)}, api.ErrTwice},
		{equals(41), [][]int{{-1}}, api.ErrBatch}, {equals(41), nil, api.ErrBatch},
	} {
		if err := barrel.Check(c.l, c.rows); err != c.err {
			t.Errorf("%d batches, %v: %d, want %d", len(c.l), c.rows, err, c.err)
		}
	}
}

// P6.4: also the chapter's example 1.
func TestApart(t *testing.T) {
	l := append(example(), batch(5, 1, 5, 1), batch(6, 0, 9, 1))
	for _, c := range []struct {
		list []int
		want bool
	}{
		{nil, true}, {[]int{}, true}, {[]int{3}, true}, {[]int{0, 1}, true}, {[]int{1, 0}, true}, {[]int{2, 0}, true}, {[]int{5, 2, 0}, true}, {[]int{1, 5, 0}, true},
		{[]int{1, 2}, false}, {[]int{2, 1}, false}, {[]int{0, 3}, false}, {[]int{0, 4}, false}, {[]int{4, 0}, false}, {[]int{0, 1, 2}, false}, {[]int{5, 0, 4}, false}, {[]int{0, 5, 3}, false}, {[]int{0, 1, 2, 3, 4, 5}, false},
	} {
		if ok := must[bool](t)(barrel.Apart(l, c.list)); ok != c.want {
			t.Errorf("%v: %t", c.list, ok)
		}
	}
	if !must[bool](t)(barrel.Apart(nil, nil)) {
		t.Error("no batches")
	}
}

// P6.5: the sum of the lengths, in any order, also of batches that may not follow each other.
func TestLength(t *testing.T) {
	l := []api.Batch{{Number: 5, Hours: [4]int{1, 0, 0, 0}}, {Number: 4, Dark: 1, Hours: [4]int{0, 10, 0, 0}}, {Number: 3, Hours: [4]int{0, 0, 99, 0}}, {Number: 2, Hours: [4]int{1, 0, 0, 100}}, {Number: 1}}
	for _, c := range []struct {
		row  []int
		want int
	}{
		{nil, 0}, {[]int{}, 0}, {[]int{0}, 1}, {[]int{1}, 10}, {[]int{2}, 99}, {[]int{3}, 101}, {[]int{4}, 0}, {[]int{1, 0}, 11}, {[]int{3, 1, 4}, 111}, {[]int{0, 1, 2, 3, 4}, 211},
	} {
		if n := must[int](t)(barrel.Length(l, c.row)); n != c.want {
			t.Errorf("%v: %d", c.row, n)
		}
	}
	var longest []api.Batch
	for i := range 40 {
		longest = append(longest, batch(i+1, i%10, 9-i%10, 100))
	}
	if n := must[int](t)(barrel.Length(longest, all(40))); n != 16_000 {
		t.Errorf("the longest: %d", n)
	}
}

// P6.4, P6.5: an index that is none, or there twice.
func TestErrorsOfIndexes(t *testing.T) {
	lists := [][]int{{4}, {-1}, {0, 4}, {0, 0}, {3, 1, 3}, {0, 1, 2, 3, 0}, {64}, {1 << 32}, {math.MinInt}, {0, math.MaxInt}, make([]int, 100_000)}
	for _, list := range lists {
		for name, r := range map[string][]any{"Apart": results(barrel.Apart(example(), list)), "Length": results(barrel.Length(example(), list))} {
			if !isError(r, api.ErrArg) {
				t.Errorf("%s, %v: %v", name, list, r)
			}
		}
	}
	for _, r := range [][]any{results(barrel.Apart(nil, []int{0})), results(barrel.Length(nil, []int{0})), results(barrel.Apart(equals(40), []int{40})), results(barrel.Length(equals(40), []int{40}))} {
		if !isError(r, api.ErrArg) {
			t.Errorf("an index beyond: %v", r)
		}
	}
}

// P6.2, P6.4: all pairs of batches, and all sets of random lists.
func TestAllPairsAndSets(t *testing.T) {
	for n := range 10_000 {
		a, b := batch(1, n/1000, n/100%10, 1), batch(2, n/10%10, n%10, 1)
		if ok := must[bool](t)(barrel.May(a, b)); ok != mayFollow(a, b) {
			t.Fatalf("May(%v, %v): %t", a, b, ok)
		}
	}
	r := rand.New(rand.NewPCG(1, 2))
	for range 200 {
		l := randomBatches(r, 8)
		for set := range 1 << len(l) {
			list := chosen(set)
			if ok := must[bool](t)(barrel.Apart(l, list)); ok != isApart(l, list) {
				t.Fatalf("Apart(%v, %v): %t", l, list, ok)
			}
		}
	}
}
