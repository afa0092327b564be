package sample_test

import (
	"math"
	"math/big"
	"math/bits"
	"math/rand/v2"
	"slices"
	"testing"

	"pantoscope/api"
	"pantoscope/sample"
)

// P5.4: some values by hand, and all there are against big numbers.
func TestChoose(t *testing.T) {
	for _, c := range [][3]int{
		{0, 0, 1}, {4, 2, 6}, {3, 2, 3}, {5, 0, 1}, {5, 5, 1}, {60, 30, 118264581564861424}, {60, 29, 114449595062769120}, {60, 1, 60}, {60, 60, 1},
		{5, -1, 0}, {5, 6, 0}, {0, 1, 0}, {60, 61, 0}, {60, math.MinInt, 0}, {60, math.MaxInt, 0},
	} {
		if n := must[int](t)(sample.Choose(c[0], c[1])); n != c[2] {
			t.Errorf("%d of %d: %d", c[1], c[0], n)
		}
	}
	for n := range api.MaxLot + 1 {
		for k := -2; k <= api.MaxLot+2; k++ {
			if got := must[int](t)(sample.Choose(n, k)); int64(got) != binomial(n, k).Int64() {
				t.Errorf("%d of %d: %d", k, n, got)
			}
		}
	}
	for _, n := range append(wild, 61) {
		for _, k := range append(wild, 0, 1) {
			if r := results(sample.Choose(n, k)); !isError(r, api.ErrArg) {
				t.Errorf("%d of %d: %v", k, n, r)
			}
		}
	}
}

// P5.4: also the chapter's example 2.
func TestWays(t *testing.T) {
	for _, c := range []struct {
		lot, bad, sample int
		want             []int
	}{
		{4, 1, 2, []int{3, 3, 0}}, {0, 0, 0, []int{1}}, {5, 2, 0, []int{1}}, {5, 0, 2, []int{10, 0, 0}}, {5, 5, 2, []int{0, 0, 10}},
		{5, 3, 3, []int{0, 3, 6, 1}}, {3, 1, 3, []int{0, 1, 0, 0}}, {60, 30, 1, []int{30, 30}},
	} {
		if list := must[[]int](t)(sample.Ways(c.lot, c.bad, c.sample)); !slices.Equal(list, c.want) {
			t.Errorf("%d, %d, %d: %v", c.lot, c.bad, c.sample, list)
		}
	}
}

// P5.4: all samples of all small lots, one by one.
func TestWaysOneByOne(t *testing.T) {
	for lot := range 9 {
		for bad := range lot + 1 {
			counts := make([][10]int, lot+1)
			for set := range uint(1) << lot {
				counts[bits.OnesCount(set)][bits.OnesCount(set&(1<<bad-1))]++
			}
			for n := range lot + 1 {
				if list := must[[]int](t)(sample.Ways(lot, bad, n)); !slices.Equal(list, counts[n][:n+1]) {
					t.Errorf("%d, %d, %d: %v", lot, bad, n, list)
				}
			}
		}
	}
}

// P5.4: the numbers are in their ranges.
func TestWaysErrors(t *testing.T) {
	for _, c := range [][3]int{{61, 0, 0}, {5, 6, 0}, {5, 0, 6}, {0, 1, 0}, {0, 0, 1}, {61, 61, 61}} {
		checkWaysError(t, c)
	}
	for _, n := range wild {
		for _, c := range [][3]int{{n, 0, 0}, {5, n, 0}, {5, 0, n}, {n, n, n}, {60, n, 60}, {60, 60, n}} {
			checkWaysError(t, c)
		}
	}
}

func checkWaysError(t *testing.T, c [3]int) {
	t.Helper()
	if r := results(sample.Ways(c[0], c[1], c[2])); !isError(r, api.ErrArg) {
		t.Errorf("%v: %v", c, r)
	}
}

// P5.5: also the chapter's examples 2 and 3, and the borders.
func TestChance(t *testing.T) {
	for _, c := range []struct {
		p        api.Plan
		lot, bad int
		want     [2]int
	}{
		{plan(2, 0), 4, 1, [2]int{1, 2}}, {plan(3, 0), 10, 5, [2]int{1, 12}}, {plan(2, 0), 10, 5, [2]int{2, 9}}, {plan(2, 0), 4, 0, [2]int{1, 1}}, {plan(2, 0), 4, 4, [2]int{0, 1}},
		{plan(4, 0), 4, 1, [2]int{0, 1}}, {plan(4, 1), 4, 1, [2]int{1, 1}}, {plan(2, 1), 4, 2, [2]int{5, 6}}, {plan(1, 0), 1, 1, [2]int{0, 1}}, {plan(60, 59), 60, 60, [2]int{0, 1}}, {plan(60, 59), 60, 59, [2]int{1, 1}},
		{plan(30, 0), 60, 30, [2]int{1, 118264581564861424}},
	} {
		if f := chanceAt(t, c.p, c.lot, c.bad); f != c.want {
			t.Errorf("%v, %d, %d: %v", c.p, c.lot, c.bad, f)
		}
	}
}

// P5.5: the chances of lots of many sizes against big numbers, in lowest terms.
func TestChanceModel(t *testing.T) {
	check := func(p api.Plan, lot, bad int) {
		t.Helper()
		want := chanceOf(p, lot, bad)
		if f := chanceAt(t, p, lot, bad); int64(f[0]) != want.Num().Int64() || int64(f[1]) != want.Denom().Int64() {
			t.Fatalf("%v, %d, %d: %v, want %v", p, lot, bad, f, want)
		}
	}
	r := rand.New(rand.NewPCG(5, 6))
	for range 20_000 {
		lot := 1 + r.IntN(api.MaxLot)
		check(randomPlan(r, lot), lot, r.IntN(lot+1))
	}
	for n := 1; n <= api.MaxLot; n++ {
		for bad := range api.MaxLot + 1 {
			check(plan(n, n/2), api.MaxLot, bad)
		}
	}
}

// P5.5: ErrPlan ahead of ErrArg.
func TestChanceErrors(t *testing.T) {
	for _, p := range badPlans() {
		for _, n := range append(wild, 0, 60) {
			if r := results(sample.Chance(p, n, n)); !isError(r, api.ErrPlan) {
				t.Errorf("%v, %d: %v", p, n, r)
			}
		}
	}
	cases := [][2]int{{4, 0}, {61, 0}, {5, 6}, {60, 61}, {0, 0}}
	for _, n := range wild {
		cases = append(cases, [2]int{n, 0}, [2]int{5, n}, [2]int{n, n})
	}
	for _, c := range cases {
		if r := results(sample.Chance(plan(5, 2), c[0], c[1])); !isError(r, api.ErrArg) {
			t.Errorf("%v: %v", c, r)
		}
	}
}

// P5.5, R5: the products do not fit into 64 bits.
func TestCompare(t *testing.T) {
	const most = math.MaxInt
	for _, c := range []struct {
		a, b [2]int
		want int
	}{
		{[2]int{1, 2}, [2]int{1, 2}, 0}, {[2]int{1, 2}, [2]int{2, 4}, 0}, {[2]int{1, 3}, [2]int{1, 2}, -1}, {[2]int{0, 7}, [2]int{0, 1}, 0}, {[2]int{0, 1}, [2]int{1, most}, -1},
		{[2]int{3, 2}, [2]int{7, 5}, 1}, {[2]int{most, 1}, [2]int{most - 1, 1}, 1}, {[2]int{most, most}, [2]int{1, 1}, 0}, {[2]int{most - 1, most}, [2]int{most - 2, most - 1}, 1},
		{[2]int{1, most}, [2]int{1, most - 1}, -1}, {[2]int{most, 1}, [2]int{1, most}, 1}, {[2]int{0, most}, [2]int{0, 3}, 0}, {[2]int{most, 2}, [2]int{most / 2, 1}, 1}, {[2]int{1 << 62, 1}, [2]int{1, 1 << 62}, 1},
	} {
		if n := must[int](t)(sample.Compare(c.a, c.b)); n != c.want {
			t.Errorf("%v, %v: %d", c.a, c.b, n)
		}
		if n := must[int](t)(sample.Compare(c.b, c.a)); n != -c.want {
			t.Errorf("%v, %v: %d", c.b, c.a, n)
		}
	}
	r := rand.New(rand.NewPCG(7, 8))
	for range 20_000 {
		a := [2]int{r.Int() >> r.IntN(63), 1 + (r.Int()-1)>>r.IntN(63)}
		b := [2]int{a[0] + r.IntN(3) - 1, a[1] + r.IntN(3) - 1}
		if b[0] < 0 || b[1] < 1 {
			continue
		}
		want := ratio(a).Cmp(ratio(b))
		if n := must[int](t)(sample.Compare(a, b)); n != want {
			t.Fatalf("%v, %v: %d", a, b, n)
		}
	}
}

// P5.5: a fraction has no negative number and no 0 below.
func TestCompareErrors(t *testing.T) {
	good := [2]int{1, 2}
	for _, f := range [][2]int{{-1, 2}, {1, 0}, {0, 0}, {1, -1}, {-1, -1}, {math.MinInt, 1}, {1, math.MinInt}, {math.MinInt, math.MinInt}} {
		for _, r := range [][]any{results(sample.Compare(f, good)), results(sample.Compare(good, f)), results(sample.Compare(f, f))} {
			if !isError(r, api.ErrArg) {
				t.Errorf("%v: %v", f, r)
			}
		}
	}
}

// P5.5: for every number of bad pieces, also if just one of them decides.
func TestStricter(t *testing.T) {
	for _, c := range []struct {
		p, q api.Plan
		lot  int
		want bool
	}{
		{plan(2, 0), plan(2, 0), 2, true}, {plan(3, 0), plan(2, 0), 10, true}, {plan(2, 0), plan(3, 0), 10, false}, {plan(5, 1), plan(5, 2), 5, true}, {plan(5, 2), plan(5, 1), 5, false},
		{plan(60, 0), plan(60, 59), 60, true}, {plan(60, 59), plan(1, 0), 60, false}, {plan(1, 0), plan(1, 0), 1, true},
		{plan(2, 0), plan(5, 1), 10, false}, {plan(5, 1), plan(2, 0), 10, false},
	} {
		if is := must[bool](t)(sample.Stricter(c.p, c.q, c.lot)); is != c.want {
			t.Errorf("%v, %v, %d: %t", c.p, c.q, c.lot, is)
		}
	}
}

// P5.5: plans of many lots, with chances of big numbers.
func TestStricterModel(t *testing.T) {
	r := rand.New(rand.NewPCG(9, 10))
	byOne, strict := 0, 0
	for range 4000 {
		lot := 1 + r.IntN([]int{8, 20, 60}[r.IntN(3)])
		p, q := randomPlan(r, lot), randomPlan(r, lot)
		if r.IntN(2) == 0 {
			q = plan(min(p.Sample+r.IntN(3), lot), min(p.Accept+r.IntN(2), p.Sample-1))
		}
		greater := 0
		for bad := range lot + 1 {
			if chanceOf(p, lot, bad).Cmp(chanceOf(q, lot, bad)) > 0 {
				greater++
			}
		}
		if is := must[bool](t)(sample.Stricter(p, q, lot)); is != (greater == 0) {
			t.Fatalf("%v, %v, %d: %t, but %d are greater", p, q, lot, is, greater)
		}
		switch greater {
		case 0:
			strict++
		case 1:
			byOne++
		}
	}
	if byOne < 50 || strict < 200 {
		t.Errorf("only %d differ by one number, %d are stricter", byOne, strict)
	}
}

// P5.5: ErrPlan ahead of ErrArg.
func TestStricterErrors(t *testing.T) {
	good := plan(5, 2)
	for _, p := range badPlans() {
		for _, lot := range append(wild, 0, 60) {
			for _, r := range [][]any{results(sample.Stricter(p, good, lot)), results(sample.Stricter(good, p, lot)), results(sample.Stricter(p, p, lot))} {
				if !isError(r, api.ErrPlan) {
					t.Errorf("%v, %d: %v", p, lot, r)
				}
			}
		}
	}
	for _, lot := range append(wild, 0, 5, 6, 61) {
		for _, r := range [][]any{results(sample.Stricter(good, plan(7, 0), lot)), results(sample.Stricter(plan(7, 0), good, lot))} {
			if !isError(r, api.ErrArg) {
				t.Errorf("%d: %v", lot, r)
			}
		}
	}
}

// P5.6: also the chapter's example 3.
func TestLeast(t *testing.T) {
	for _, c := range []struct {
		lot, bad, accept int
		most             [2]int
		want             int
	}{
		{10, 5, 0, [2]int{1, 10}, 3}, {10, 5, 0, [2]int{1, 12}, 3}, {10, 5, 0, [2]int{2, 9}, 2}, {10, 5, 0, [2]int{1, 5}, 3}, {10, 5, 0, [2]int{1, 1}, 1},
		{10, 5, 0, [2]int{0, 1}, 6}, {10, 5, 2, [2]int{0, 9}, 8}, {10, 5, 4, [2]int{0, 1}, 10}, {10, 0, 0, [2]int{1, 1}, 1}, {10, 0, 9, [2]int{9, 1}, 10},
		{10, 10, 0, [2]int{0, 1}, 1}, {10, 10, 9, [2]int{0, 1}, 10}, {1, 1, 0, [2]int{0, 1}, 1}, {10, 5, 3, [2]int{math.MaxInt, 1}, 4}, {60, 1, 0, [2]int{1, math.MaxInt}, 60},
		{60, 30, 0, [2]int{1, 118264581564861424}, 30}, {60, 30, 0, [2]int{1, 118264581564861425}, 31}, {60, 30, 0, [2]int{77, 77 * 118264581564861424}, 30}, {60, 30, 0, [2]int{76, 77 * 118264581564861424}, 31},
	} {
		if n := must[int](t)(sample.Least(c.lot, c.bad, c.accept, c.most)); n != c.want {
			t.Errorf("%d, %d, %d, %v: %d", c.lot, c.bad, c.accept, c.most, n)
		}
	}
}

// P5.6: the samples of many lots one by one, with chances of big numbers; the fraction is often one of the chances.
func TestLeastModel(t *testing.T) {
	r := rand.New(rand.NewPCG(11, 12))
	none := 0
	for range 5000 {
		lot := 1 + r.IntN(api.MaxLot)
		bad, accept := r.IntN(lot+1), r.IntN(lot)/(1+r.IntN(8))
		most := [2]int{r.IntN(100), 1 + r.IntN(1000)}
		if r.IntN(2) == 0 {
			most = chanceAt(t, plan(accept+1+r.IntN(lot-accept), accept), lot, bad)
		}
		want, err := 0, api.ErrLimit
		for n := accept + 1; n <= lot && want == 0; n++ {
			if chanceOf(plan(n, accept), lot, bad).Cmp(ratio(most)) <= 0 {
				want, err = n, api.OK
			}
		}
		if n, e := sample.Least(lot, bad, accept, most); n != want || e != err {
			t.Fatalf("%d, %d, %d, %v: %d, %d, want %d, %d", lot, bad, accept, most, n, e, want, err)
		}
		if err != api.OK {
			none++
		}
	}
	if none < 100 {
		t.Errorf("only %d have none", none)
	}
}

// P5.6: ErrArg, and ErrLimit if no sample is enough.
func TestLeastErrors(t *testing.T) {
	check := func(lot, bad, accept int, most [2]int, want api.Errno) {
		t.Helper()
		if r := results(sample.Least(lot, bad, accept, most)); !isError(r, want) {
			t.Errorf("%d, %d, %d, %v: %v, want %d", lot, bad, accept, most, r, want)
		}
	}
	half := [2]int{1, 2}
	for _, n := range append(wild, 61) {
		check(n, 0, 0, half, api.ErrArg)
		check(60, n, 0, half, api.ErrArg)
		check(60, 30, n, half, api.ErrArg)
		check(n, n, n, half, api.ErrArg)
	}
	check(0, 0, 0, half, api.ErrArg)
	check(0, 0, -1, half, api.ErrArg)
	check(10, 11, 0, half, api.ErrArg)
	check(10, 5, 10, half, api.ErrArg)
	for _, most := range [][2]int{{-1, 2}, {1, 0}, {0, 0}, {1, -1}, {-1, -1}, {math.MinInt, 1}, {1, math.MinInt}} {
		check(10, 5, 0, most, api.ErrArg)
		check(10, 0, 0, most, api.ErrArg)
	}
	check(10, 0, 0, half, api.ErrLimit)
	check(10, 0, 0, [2]int{math.MaxInt - 1, math.MaxInt}, api.ErrLimit)
	check(10, 5, 5, [2]int{0, 1}, api.ErrLimit)
	check(10, 5, 9, half, api.ErrLimit)
	check(1, 0, 0, [2]int{0, 1}, api.ErrLimit)
}

// P5.5: the model of these tests has the chapter's example 2.
func TestChanceOf(t *testing.T) {
	if c := chanceOf(plan(2, 0), 4, 1); c.Cmp(big.NewRat(1, 2)) != 0 {
		t.Errorf("%v", c)
	}
}
