package slab_test

import (
	"math"
	"math/rand/v2"
	"slices"
	"testing"

	"pantoscope/api"
	"pantoscope/slab"
)

// Example 3.
func TestExampleOfOvens(t *testing.T) {
	table := []int{1000, 500}
	for days, want := range []int{1000, 990, 985, 985} {
		if n, e := slab.Season(1000, table, days); n != want || e != api.OK {
			t.Errorf("Season after %d: %d, %d", days, n, e)
		}
	}
	if n, e := slab.Allowance(985, table, 2); n != 1000 || e != api.OK {
		t.Errorf("Allowance: %d, %d", n, e)
	}
	for least, want := range map[int]int{0: 2, 4: 2, 5: 1, 14: 1, 15: 0, 16: 0, 1000: 0} {
		if n, e := slab.Ready(1000, table, least); n != want || e != api.OK {
			t.Errorf("Ready with %d: %d, %d", least, n, e)
		}
	}
}

// P2.7: Season.
func TestSeason(t *testing.T) {
	halves := slices.Repeat([]int{50000}, api.MaxDays)
	for _, c := range []struct {
		size  int
		table []int
		days  int
		want  int
	}{
		{1, nil, 0, 1}, {1, nil, 1000, 1}, {100000, []int{}, 5, 100000}, {1, []int{0}, 1, 1}, {1, []int{1}, 1, 0}, {1, []int{1}, 0, 1},
		{100000, []int{50000}, 1, 50000}, {99999, []int{50000}, 1, 49999}, {100000, []int{1}, 1, 99999}, {7, []int{50000, 50000, 0, 50000}, 3, 1},
		{7, []int{50000, 50000, 0, 50000}, 4, 0}, {100000, halves, 16, 1}, {100000, halves, 17, 0}, {100000, halves, 1000, 0},
		{100000, []int{10000, 20000}, 1, 90000}, {100000, []int{10000, 20000}, 2, 72000}, {12345, []int{333}, 1, 12303},
	} {
		if n, e := slab.Season(c.size, c.table, c.days); n != c.want || e != api.OK {
			t.Errorf("Season(%d, %v, %d): %d, %d, want %d", c.size, c.table, c.days, n, e, c.want)
		}
	}
}

// P2.7: Allowance.
func TestAllowance(t *testing.T) {
	for _, c := range []struct {
		want  int
		table []int
		days  int
		size  int
		err   api.Errno
	}{
		{1, nil, 0, 1, api.OK}, {100000, nil, 1000, 100000, api.OK}, {1, []int{50000}, 0, 1, api.OK}, {1, []int{50000}, 1, 2, api.OK}, {2, []int{1}, 1, 3, api.OK},
		{50000, []int{50000}, 1, 100000, api.OK}, {50001, []int{50000}, 1, 0, api.ErrNone}, {100000, []int{1}, 1, 0, api.ErrNone}, {99999, []int{1}, 1, 100000, api.OK},
		{100000, []int{0}, 1, 100000, api.OK}, {100000, []int{1}, 0, 100000, api.OK}, {1, slices.Repeat([]int{50000}, 60), 60, 0, api.ErrNone},
		{1, slices.Repeat([]int{50000}, 60), 16, 65536, api.OK}, {1, slices.Repeat([]int{50000}, 60), 17, 0, api.ErrNone},
	} {
		if n, e := slab.Allowance(c.want, c.table, c.days); n != c.size || e != c.err {
			t.Errorf("Allowance(%d, %v, %d): %d, %d, want %d, %d", c.want, c.table, c.days, n, e, c.size, c.err)
		}
	}
}

// P2.7: Ready.
func TestReady(t *testing.T) {
	for _, c := range []struct {
		size  int
		table []int
		least int
		want  int
	}{
		{1, nil, 0, 0}, {100000, []int{0, 0, 0}, 0, 0}, {100, []int{0, 1000, 0}, 0, 2}, {100, []int{0, 1000, 0}, 1, 0}, {100, []int{1000, 1000, 1000}, 0, 3},
		{100, []int{1000, 1000, 1000}, 1, 2}, {100, []int{1000, 1000, 1000}, 2, 1}, {100, []int{1000, 1000, 1000}, 3, 0}, {1, []int{1, 50000}, 0, 1},
		{100, []int{1000}, math.MaxInt, 0}, {100000, slices.Repeat([]int{50000}, 60), 0, 17}, {100000, slices.Repeat([]int{50000}, 60), 1, 16},
		{100000, append(slices.Repeat([]int{0}, 59), 1), 0, 60},
	} {
		if n, e := slab.Ready(c.size, c.table, c.least); n != c.want || e != api.OK {
			t.Errorf("Ready(%d, %v, %d): %d, %d, want %d", c.size, c.table, c.least, n, e, c.want)
		}
	}
}

// P2.7: errors, also two at once.
func TestOvenErrors(t *testing.T) {
	most, least := math.MaxInt, math.MinInt
	day60, day61 := make([]int, 60), make([]int, 61)
	wrong := slices.Repeat([]int{-1}, 61)
	type call struct {
		n     int
		table []int
		m     int
		err   api.Errno
	}
	both := []call{
		{1, day60, 0, api.OK}, {1, day61, 0, api.ErrLimit}, {0, day61, 0, api.ErrLimit}, {1, day61, -1, api.ErrLimit}, {1, wrong, 0, api.ErrLimit},
		{100000, []int{0, 50000}, 0, api.OK}, {1, []int{-1}, 0, api.ErrArg}, {1, []int{50001}, 0, api.ErrArg}, {1, []int{0, 0, 50001}, 0, api.ErrArg},
		{1, []int{most}, 0, api.ErrArg}, {1, []int{least}, 0, api.ErrArg}, {1, []int{-1, 5}, 0, api.ErrArg}, {0, nil, 0, api.ErrArg}, {-1, nil, 0, api.ErrArg},
		{100001, nil, 0, api.ErrArg}, {most, nil, 0, api.ErrArg}, {least, nil, 0, api.ErrArg}, {1, nil, -1, api.ErrArg}, {1, nil, least, api.ErrArg},
		{1, make([]int, 1000), 0, api.ErrLimit},
	}
	days := []call{{1, nil, 1000, api.OK}, {1, nil, 1001, api.ErrArg}, {1, nil, most, api.ErrArg}, {100000, []int{1}, 1001, api.ErrArg}}
	waits := []call{{1, nil, 1001, api.OK}, {1, nil, most, api.OK}}
	for name, c := range map[string]struct {
		call func(n int, table []int, m int) (int, api.Errno)
		list []call
	}{
		"Season": {slab.Season, slices.Concat(both, days)}, "Allowance": {slab.Allowance, slices.Concat(both, days)}, "Ready": {slab.Ready, slices.Concat(both, waits)},
	} {
		for _, d := range c.list {
			if n, e := c.call(d.n, d.table, d.m); e != d.err || e != api.OK && n != 0 {
				t.Errorf("%s(%d, %v, %d): %d, %d, want %d", name, d.n, d.table, d.m, n, e, d.err)
			}
		}
	}
	for _, table := range [][]int{{1, 50001}, {50000, -1}} { // an element behind those that count, and no size
		if n, e := slab.Allowance(100000, table, 1); n != 0 || e != api.ErrArg {
			t.Errorf("Allowance with %v: %d, %d", table, n, e)
		}
	}
}

// A table is read up to its length alone, and not changed.
func TestTableStays(t *testing.T) {
	long := []int{1000, 500, 7, 50001}
	n := must[int](t)(slab.Season(1000, long[:2], 1000))
	m := must[int](t)(slab.Allowance(985, long[:2], 1000))
	d := must[int](t)(slab.Ready(1000, long[:2], 0))
	if n != 985 || m != 1000 || d != 2 || !slices.Equal(long, []int{1000, 500, 7, 50001}) {
		t.Errorf("%d, %d, %d, %v", n, m, d, long)
	}
}

// P2.11: ovens, for many tables.
func TestOvenLaws(t *testing.T) {
	r := rand.New(rand.NewPCG(13, 14))
	for range 300 {
		most := []int{0, 5, 300, 4000, 50000}[r.IntN(5)]
		table := make([]int, r.IntN(api.MaxDays+1))
		for i := range table {
			table[i] = r.IntN(most + 1)
		}
		size := 1 + r.IntN([]int{3, 100, api.MaxRaw - 1}[r.IntN(3)])
		season := func(size, days int) int { return must[int](t)(slab.Season(size, table, days)) }
		for days := range len(table) + 3 {
			if now := season(size, days); season(size, days+1) > now || season(size+1, days) < now {
				t.Fatalf("Season(%d, %v, %d): %d", size, table, days, now)
			}
			if days < len(table) && season(size, days+1) != season(size, days)*(100000-table[days])/100000 {
				t.Fatalf("Season(%d, %v, %d)", size, table, days+1)
			}
		}
		days := r.IntN(len(table) + 2)
		if n, e := slab.Allowance(size, table, days); e == api.ErrNone {
			if n != 0 || season(api.MaxRaw, days) >= size {
				t.Fatalf("Allowance(%d, %v, %d): %d, %d", size, table, days, n, e)
			}
		} else if e != api.OK || season(n, days) < size || n > 1 && season(n-1, days) >= size {
			t.Fatalf("Allowance(%d, %v, %d): %d, %d", size, table, days, n, e)
		}
		least := r.IntN(size + 2)
		left := season(size, 1000)
		d := must[int](t)(slab.Ready(size, table, least))
		if d < 0 || d > len(table) || season(size, d)-left > least || d > 0 && season(size, d-1)-left <= least || d > 0 && least >= size {
			t.Fatalf("Ready(%d, %v, %d): %d", size, table, least, d)
		}
	}
}
