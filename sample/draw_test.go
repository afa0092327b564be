package sample_test

import (
	"math/rand/v2"
	"slices"
	"testing"

	"pantoscope/api"
	"pantoscope/sample"
)

// P5.7: from the seed 1 come 16807, 282475249, 1622650073, 984943658, 1144108930; from the greatest one 2147466840, 1865008398.
func TestDraw(t *testing.T) {
	for _, c := range []struct {
		seed, lot, sample int
		want              []int
	}{
		{1, 10, 0, nil}, {1, 10, 1, []int{7}}, {1, 10, 2, []int{7, 8}}, {1, 10, 3, []int{1, 7, 8}}, {1, 10, 4, []int{1, 7, 8, 9}}, {1, 10, 5, []int{1, 5, 7, 8, 9}},
		{16807, 10, 1, []int{9}}, {2147483646, 10, 1, []int{0}}, {2147483646, 10, 2, []int{0, 4}}, {5, 1, 1, []int{0}}, {5, 1, 0, nil}, {9, 4, 4, []int{0, 1, 2, 3}},
	} {
		if list := must[[]int](t)(sample.Draw(c.seed, c.lot, c.sample)); !slices.Equal(list, c.want) {
			t.Errorf("%d, %d, %d: %v", c.seed, c.lot, c.sample, list)
		}
	}
}

// drawOf counts through the pieces that are not yet taken.
func drawOf(seed, lot, n int) []int {
	taken := make([]bool, lot)
	x := uint64(seed)
	for k := range n {
		x = x * 16807 % 2147483647
		ahead := x % uint64(lot-k)
		for i := range taken {
			if taken[i] {
				continue
			}
			if ahead == 0 {
				taken[i] = true
				break
			}
			ahead--
		}
	}
	var list []int
	for i, is := range taken {
		if is {
			list = append(list, i)
		}
	}
	return list
}

// P5.7: many seeds, lots and samples.
func TestDrawModel(t *testing.T) {
	r := rand.New(rand.NewPCG(13, 14))
	for range 20_000 {
		seed, lot := 1+r.IntN(2147483646), 1+r.IntN(api.MaxLot)
		n := r.IntN(lot + 1)
		if list := must[[]int](t)(sample.Draw(seed, lot, n)); !slices.Equal(list, drawOf(seed, lot, n)) {
			t.Fatalf("%d, %d, %d: %v", seed, lot, n, list)
		}
	}
}

// P5.7: what is no seed, lot or sample.
func TestDrawErrors(t *testing.T) {
	cases := [][3]int{{0, 5, 2}, {2147483647, 5, 2}, {2147483648, 5, 2}, {1, 0, 0}, {1, 61, 0}, {1, 5, 6}, {1, 60, 61}, {0, 0, 0}}
	for _, n := range wild {
		cases = append(cases, [3]int{n, 5, 2}, [3]int{1, n, 0}, [3]int{1, 5, n}, [3]int{1, n, n}, [3]int{n, n, n})
	}
	for _, c := range cases {
		if r := results(sample.Draw(c[0], c[1], c[2])); !isError(r, api.ErrArg) {
			t.Errorf("%v: %v", c, r)
		}
	}
}

// P5.7: in any order.
func TestBad(t *testing.T) {
	pieces := []bool{true, false, true, true, false}
	for _, c := range []struct {
		drawn []int
		want  int
	}{
		{nil, 0}, {[]int{0}, 1}, {[]int{1}, 0}, {[]int{0, 1, 2}, 2}, {[]int{4, 3, 2, 1, 0}, 3}, {[]int{4, 1}, 0}, {[]int{3, 0}, 2},
	} {
		if n := must[int](t)(sample.Bad(pieces, c.drawn)); n != c.want {
			t.Errorf("%v: %d", c.drawn, n)
		}
	}
	if n := must[int](t)(sample.Bad(nil, nil)); n != 0 {
		t.Errorf("nothing: %d", n)
	}
	if n := must[int](t)(sample.Bad(append(make([]bool, 59), true), []int{59})); n != 1 {
		t.Errorf("the last of 60: %d", n)
	}
}

// P5.7: too many pieces, an index that is none, and one that is there twice.
func TestBadErrors(t *testing.T) {
	check := func(pieces []bool, drawn ...int) {
		t.Helper()
		if r := results(sample.Bad(pieces, drawn)); !isError(r, api.ErrArg) {
			t.Errorf("%v, %v: %v", pieces, drawn, r)
		}
	}
	pieces := []bool{true, true, true}
	check(make([]bool, 61))
	check(make([]bool, 61), 0, 1)
	check(make([]bool, 100_000), 60)
	check(nil, 0)
	check(pieces, 3)
	check(pieces, 0, 1, 3)
	check(pieces, 0, 0)
	check(pieces, 2, 1, 2)
	check(pieces, 0, 1, 2, 0)
	check([]bool{false, false}, 1, 1)
	check(pieces, make([]int, 100_000)...)
	for _, n := range wild {
		check(pieces, n)
		check(pieces, 0, n)
		check(nil, n)
	}
}
