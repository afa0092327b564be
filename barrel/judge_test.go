package barrel_test

import (
	"math"
	"testing"

	"pantoscope/api"
	"pantoscope/barrel"
)

// P6.7: what is wrong with which run, barrel by barrel and run by run, of the batches of the chapter's example 1, which last 6, 7, 8 and 9 hours.
func TestJudge(t *testing.T) {
	first, second, third, fourth := cleaned(0, 0, 8), cleaned(1, 0, 9), next(2, 9, 17), next(3, 8, 17)
	for name, c := range map[string]struct {
		runs        [][]api.Run
		barrel, run int
		err         api.Errno
	}{
		"well":                  {[][]api.Run{{first, fourth}, {second, third}}, 0, 0, api.OK},
		"an idle barrel":        {[][]api.Run{{}, {first, fourth}, nil, {second, third}}, 0, 0, api.OK},
		"later":                 {[][]api.Run{{cleaned(0, 100, 108), next(3, 1000, 1009)}, {second, third}}, 0, 0, api.OK},
		"cleaned for nothing":   {[][]api.Run{{first, cleaned(3, 8, 19)}, {second, third}}, 0, 0, api.OK},
		"cleaned, then lighter": {[][]api.Run{{first, next(3, 8, 17), cleaned(2, 17, 27), cleaned(1, 27, 36)}}, 0, 0, api.OK},
		"none done":             {nil, 0, 0, api.ErrLimit},
		"no runs":               {[][]api.Run{nil, {}}, 0, 0, api.ErrLimit},
		"one not done":          {[][]api.Run{{first}, {second, third}}, 0, 0, api.ErrLimit},
		"the first not done":    {[][]api.Run{{second, third, next(3, 17, 26)}}, 0, 0, api.ErrLimit},
		"no batch":              {[][]api.Run{{first, next(4, 8, 17)}, {second, third}}, 0, 1, api.ErrArg},
		"no batch below 0":      {[][]api.Run{{first, fourth}, {cleaned(-1, 0, 9)}}, 1, 0, api.ErrArg},
		"no batch at all":       {[][]api.Run{{cleaned(math.MaxInt, 0, 0)}}, 0, 0, api.ErrArg},
		"before 0":              {[][]api.Run{{first, fourth}, {second, next(2, -1, 7)}}, 1, 1, api.ErrArg},
		"before 0, twice":       {[][]api.Run{{first, next(0, -1, 5)}}, 0, 1, api.ErrArg},
		"long before 0":         {[][]api.Run{{cleaned(0, math.MinInt, math.MinInt+8)}}, 0, 0, api.ErrArg},
		"twice":                 {[][]api.Run{{first, fourth}, {second, cleaned(0, 9, 15), cleaned(9, 0, 0)}}, 1, 1, api.ErrTwice},
		"twice in a barrel":     {[][]api.Run{{first, next(0, 8, 14)}}, 0, 1, api.ErrTwice},
		"twice and too early":   {[][]api.Run{{first, next(0, 7, 13)}}, 0, 1, api.ErrTwice},
		"too early":             {[][]api.Run{{first, next(3, 7, 16)}}, 0, 1, api.ErrClash},
		"too early and dirty":   {[][]api.Run{{first, next(1, 7, 14)}}, 0, 1, api.ErrClash},
		"too early, cleaned":    {[][]api.Run{{first, cleaned(3, 7, 18)}}, 0, 1, api.ErrClash},
		"too short":             {[][]api.Run{{first, fourth}, {second, next(2, 9, 16)}}, 1, 1, api.ErrClash},
		"too long":              {[][]api.Run{{first, fourth}, {second, next(2, 9, 18)}}, 1, 1, api.ErrClash},
		"as if cleaned":         {[][]api.Run{{first, next(3, 8, 19)}}, 0, 1, api.ErrClash},
		"as if not cleaned":     {[][]api.Run{{cleaned(0, 0, 6)}}, 0, 0, api.ErrClash},
		"backwards":             {[][]api.Run{{cleaned(0, 8, 0)}}, 0, 0, api.ErrClash},
		"beyond all hours":      {[][]api.Run{{cleaned(0, math.MaxInt-3, math.MinInt+4)}}, 0, 0, api.ErrClash},
		"all hours":             {[][]api.Run{{cleaned(0, 0, math.MaxInt)}}, 0, 0, api.ErrClash},
		"before all hours":      {[][]api.Run{{cleaned(0, 5, math.MinInt)}}, 0, 0, api.ErrClash},
		"clash and dirty":       {[][]api.Run{{next(0, 0, 7)}}, 0, 0, api.ErrClash},
		"never cleaned":         {[][]api.Run{{next(0, 0, 6)}}, 0, 0, api.ErrDirty},
		"never cleaned later":   {[][]api.Run{{first, fourth}, {}, {next(1, 20, 27)}}, 2, 0, api.ErrDirty},
		"dirty":                 {[][]api.Run{{first, next(1, 8, 15)}}, 0, 1, api.ErrDirty},
		"dirty after a pause":   {[][]api.Run{{first, next(2, 80, 88)}}, 0, 1, api.ErrDirty},
		"dirty, then none":      {[][]api.Run{{first, next(2, 8, 16)}, {cleaned(7, 0, 0)}}, 0, 1, api.ErrDirty},
		"none, then dirty":      {[][]api.Run{{cleaned(7, 0, 0)}, {first, next(2, 8, 16)}}, 0, 0, api.ErrArg},
		"the last hours":        {[][]api.Run{{cleaned(0, math.MaxInt-8, math.MaxInt)}}, 0, 0, api.ErrLimit},
	} {
		k, n, err := barrel.Judge(example(), 2, c.runs)
		if k != c.barrel || n != c.run || err != c.err {
			t.Errorf("%s: %d, %d, %d", name, k, n, err)
		}
	}
}

// P6.7: the hours of cleaning, which are asked before the runs; and the longest lists.
func TestJudgeBorders(t *testing.T) {
	wrong := [][]api.Run{{next(9, -1, 0)}}
	for _, clean := range []int{-1, 101, math.MinInt, math.MaxInt} {
		for _, runs := range [][][]api.Run{nil, wrong, {1: wrong[0]}} {
			if r := results(barrel.Judge(equals(1), clean, runs)); !isError(r, api.ErrArg) {
				t.Errorf("%d: %v", clean, r)
			}
		}
	}
	for _, c := range []struct {
		l     []api.Batch
		clean int
		runs  [][]api.Run
	}{
		{nil, 0, nil}, {nil, 100, make([][]api.Run, 8)}, {equals(1), 0, [][]api.Run{{cleaned(0, 0, 4)}}}, {equals(1), 100, [][]api.Run{7: {cleaned(0, 0, 104)}}},
	} {
		if r := results(barrel.Judge(c.l, c.clean, c.runs)); !isError(r, api.OK) {
			t.Errorf("%d batches: %v", len(c.l), r)
		}
	}
	var long []api.Run
	for i := range 40 {
		long = append(long, api.Run{Batch: i, From: 4 * i, To: 4*i + 4, Clean: i == 0})
	}
	if r := results(barrel.Judge(equals(40), 0, [][]api.Run{long})); !isError(r, api.OK) {
		t.Errorf("the longest: %v", r)
	}
	if k, n, err := barrel.Judge(equals(40), 0, [][]api.Run{append(long, make([]api.Run, 60)...)}); k != 0 || n != 40 || err != api.ErrTwice {
		t.Errorf("100 runs: %d, %d, %d", k, n, err)
	}
	if r := results(barrel.Judge(equals(40), 0, [][]api.Run{append(long, make([]api.Run, 61)...)})); !isError(r, api.ErrArg) {
		t.Errorf("101 runs: %v", r)
	}
}

// P6.7: each hour of a run; stages without hours are passed over.
func TestStage(t *testing.T) {
	l := []api.Batch{{Number: 9, Hours: [4]int{2, 0, 1, 3}}, {Number: 8}, {Number: 7, Hours: [4]int{0, 0, 2, 0}}, {Number: 6, Hours: [4]int{100, 100, 100, 100}}}
	for _, c := range []struct {
		r     api.Run
		clean int
		first int
		want  []int
	}{
		{cleaned(0, 10, 18), 2, 8, []int{5, 5, 0, 0, 1, 1, 3, 4, 4, 4, 5, 5}}, {next(0, 10, 16), 2, 9, []int{5, 1, 1, 3, 4, 4, 4, 5}}, {cleaned(0, 0, 6), 0, -1, []int{5, 1, 1, 3, 4, 4, 4, 5}},
		{next(1, 5, 5), 2, 4, []int{5, 5, 5}}, {cleaned(1, 5, 7), 2, 4, []int{5, 0, 0, 5}}, {cleaned(1, 5, 5), 0, 4, []int{5, 5, 5}}, {next(2, 0, 2), 9, -1, []int{5, 3, 3, 5}},
		{cleaned(2, -3, 0), 1, -4, []int{5, 0, 3, 3, 5}}, {next(2, math.MinInt, math.MinInt+2), 0, math.MinInt, []int{3, 3, 5}}, {next(2, math.MaxInt-2, math.MaxInt), 0, math.MaxInt - 3, []int{5, 3, 3, 5}},
	} {
		for n, want := range c.want {
			if stage := must[int](t)(barrel.Stage(l, c.r, c.clean, c.first+n)); stage != want {
				t.Errorf("%v, %d, %d: %d, want %d", c.r, c.clean, c.first+n, stage, want)
			}
		}
		for _, hour := range []int{math.MinInt, math.MaxInt} {
			if outside := hour < c.r.From || hour >= c.r.To; outside && must[int](t)(barrel.Stage(l, c.r, c.clean, hour)) != 5 {
				t.Errorf("%v, %d: hour %d", c.r, c.clean, hour)
			}
		}
	}
	for hour, want := range map[int]int{0: 0, 99: 0, 100: 1, 199: 1, 200: 2, 299: 2, 300: 3, 399: 3, 400: 4, 499: 4, 500: 5} {
		if stage := must[int](t)(barrel.Stage(l, cleaned(3, 0, 500), 100, hour)); stage != want {
			t.Errorf("hour %d: %d", hour, stage)
		}
	}
	if stage := must[int](t)(barrel.Stage(l, cleaned(1, math.MinInt, math.MinInt), 0, math.MaxInt)); stage != 5 {
		t.Errorf("an empty run: %d", stage)
	}
}

// P6.7: ErrArg, whatever the hour is.
func TestStageErrors(t *testing.T) {
	l := four()
	for _, hour := range []int{0, 5, -1, math.MinInt, math.MaxInt} {
		for _, c := range []struct {
			r     api.Run
			clean int
		}{
			{cleaned(0, 0, 12), -1}, {next(0, 0, 12), 101}, {next(0, 0, 10), -1}, {next(0, 0, 10), math.MinInt}, {next(0, 0, 10), math.MaxInt},
			{cleaned(4, 0, 12), 2}, {cleaned(-1, 0, 12), 2}, {cleaned(math.MinInt, 0, 0), 0}, {cleaned(math.MaxInt, 0, 0), 0},
			{cleaned(0, 0, 11), 2}, {cleaned(0, 0, 13), 2}, {cleaned(0, 0, 10), 2}, {next(0, 0, 12), 2}, {cleaned(0, 12, 0), 2}, {cleaned(0, 0, -12), 2},
			{cleaned(0, math.MaxInt-5, math.MinInt+6), 2}, {cleaned(0, 0, math.MaxInt), 2}, {cleaned(0, math.MinInt, math.MaxInt), 2}, {cleaned(0, math.MaxInt, math.MinInt), 2}, {cleaned(0, 0, math.MinInt), 2},
		} {
			if r := results(barrel.Stage(l, c.r, c.clean, hour)); !isError(r, api.ErrArg) {
				t.Errorf("%v, %d, %d: %v", c.r, c.clean, hour, r)
			}
		}
	}
	if r := results(barrel.Stage(nil, api.Run{}, 0, 0)); !isError(r, api.ErrArg) {
		t.Errorf("no batches: %v", r)
	}
}
