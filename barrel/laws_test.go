package barrel_test

import (
	"math/rand/v2"
	"slices"
	"testing"

	"pantoscope/api"
	"pantoscope/barrel"
)

// P6.8: Check accepts Rows, of which there are Fewest; Proof is apart, and has as many elements.
func TestRowsAndProofs(t *testing.T) {
	r := rand.New(rand.NewPCG(9, 10))
	for range 3000 {
		l := randomBatches(r, api.MaxBatches)
		rows, list, fewest := must[[][]int](t)(barrel.Rows(l)), must[[]int](t)(barrel.Proof(l)), must[int](t)(barrel.Fewest(l))
		if err := barrel.Check(l, rows); err != api.OK || len(rows) != fewest {
			t.Fatalf("Check(%v, %v): %d; Fewest: %d", l, rows, err, fewest)
		}
		if !must[bool](t)(barrel.Apart(l, list)) || len(list) != fewest || !isAscending(list) {
			t.Fatalf("Proof(%v): %v; Fewest: %d", l, list, fewest)
		}
	}
}

// P6.9: one more batch, another order, and a batch that may follow, and be followed by, another one.
func TestOneMore(t *testing.T) {
	r := rand.New(rand.NewPCG(11, 12))
	more := 0
	for range 3000 {
		l := randomBatches(r, api.MaxBatches-1)
		if len(l) == 0 {
			continue
		}
		n := len(l) - 1
		fewest, less := must[int](t)(barrel.Fewest(l)), must[int](t)(barrel.Fewest(l[:n]))
		if fewest < less || fewest > less+1 {
			t.Fatalf("%v: %d, then %d", l, less, fewest)
		}
		if fewest > less {
			more++
		}
		alike := l[r.IntN(len(l))]
		alike.Number = 1000
		if other := must[int](t)(barrel.Fewest(append(l, alike))); other != fewest {
			t.Fatalf("%v and %v: %d, then %d", l, alike, fewest, other)
		}
		r.Shuffle(len(l), func(i, j int) { l[i], l[j] = l[j], l[i] })
		if other := must[int](t)(barrel.Fewest(l)); other != fewest {
			t.Fatalf("%v: %d, in another order %d", l, fewest, other)
		}
	}
	if more < 200 {
		t.Errorf("only %d are more", more)
	}
}

// numbers are the rows with the Numbers of their batches.
func numbers(l []api.Batch, rows [][]int) [][]int {
	var list [][]int
	for _, row := range rows {
		var named []int
		for _, i := range row {
			named = append(named, l[i].Number)
		}
		list = append(list, named)
	}
	return list
}

// P6.9: in another order of the list, the batches have the same rows.
func TestOrderOfTheList(t *testing.T) {
	r := rand.New(rand.NewPCG(13, 14))
	for range 500 {
		l := randomBatches(r, api.MaxBatches)
		rows := numbers(l, must[[][]int](t)(barrel.Rows(l)))
		r.Shuffle(len(l), func(i, j int) { l[i], l[j] = l[j], l[i] })
		if other := numbers(l, must[[][]int](t)(barrel.Rows(l))); !slices.EqualFunc(rows, other, slices.Equal) {
			t.Fatalf("%v: %v, in another order %v", l, rows, other)
		}
	}
}

// randomRows are rows that Check accepts: those of Rows, cut into pieces and in any order.
func randomRows(t *testing.T, r *rand.Rand, l []api.Batch) [][]int {
	var rows [][]int
	for _, row := range must[[][]int](t)(barrel.Rows(l)) {
		for len(row) > 0 {
			n := len(row)
			if r.IntN(2) == 0 {
				n = 1 + r.IntN(n)
			}
			rows, row = append(rows, row[:n]), row[n:]
		}
	}
	r.Shuffle(len(rows), func(i, j int) { rows[i], rows[j] = rows[j], rows[i] })
	return rows
}

// P6.6, P6.10: Judge accepts what Assign returns, with as many Cleanings as rows, and no run waits; End is at least Bound.
func TestTimes(t *testing.T) {
	r := rand.New(rand.NewPCG(15, 16))
	reached := 0
	for range 2000 {
		l, barrels, clean := randomBatches(r, api.MaxBatches), 1+r.IntN(8), r.IntN([]int{1, 5, 101}[r.IntN(3)])
		rows := randomRows(t, r, l)
		runs := must[[][]api.Run](t)(barrel.Assign(l, rows, barrels, clean))
		if k, n, err := barrel.Judge(l, clean, runs); k != 0 || n != 0 || err != api.OK {
			t.Fatalf("Judge(%v, %d, %v): %d, %d, %d", l, clean, runs, k, n, err)
		}
		if n := must[int](t)(barrel.Cleanings(runs)); n != len(rows) || len(runs) != barrels {
			t.Fatalf("%v: %d cleanings, want %d", runs, n, len(rows))
		}
		end, bound := must[int](t)(barrel.End(runs)), must[int](t)(barrel.Bound(l, barrels, clean))
		if end < bound {
			t.Fatalf("%v, %d, %d: %v ends at %d, before %d", l, barrels, clean, runs, end, bound)
		}
		if end == bound {
			reached++
		}
		if want := assignOf(l, rows, barrels, clean); !equalRuns(runs, want) {
			t.Fatalf("Assign(%v, %v, %d, %d): %v, want %v", l, rows, barrels, clean, runs, want)
		}
	}
	if reached < 100 {
		t.Errorf("Bound is reached %d times", reached)
	}
}

// assignOf gives rows to barrels as the chapter says.
func assignOf(l []api.Batch, rows [][]int, barrels, clean int) [][]api.Run {
	runs := make([][]api.Run, barrels)
	free := func(k int) int {
		if len(runs[k]) == 0 {
			return 0
		}
		return runs[k][len(runs[k])-1].To
	}
	for _, row := range rows {
		best := 0
		for k := range runs {
			if free(k) < free(best) {
				best = k
			}
		}
		for n, i := range row {
			from := free(best)
			to := from + lengthOf(l[i])
			if n == 0 {
				to += clean
			}
			runs[best] = append(runs[best], api.Run{Batch: i, From: from, To: to, Clean: n == 0})
		}
	}
	return runs
}

// P6.10: End of what Judge accepts is at least Bound, also of runs that Assign would not make.
func TestEndAndBound(t *testing.T) {
	r := rand.New(rand.NewPCG(17, 18))
	for range 2000 {
		l, barrels, clean := randomBatches(r, 6), 1+r.IntN(8), r.IntN(20)
		runs := make([][]api.Run, 1+r.IntN(barrels))
		for _, i := range r.Perm(len(l)) {
			k := r.IntN(len(runs))
			run := api.Run{Batch: i, From: r.IntN(3) / 2}
			if n := len(runs[k]); n > 0 {
				run.From += runs[k][n-1].To
			}
			if n := len(runs[k]); n == 0 || !mayFollow(l[runs[k][n-1].Batch], l[i]) || r.IntN(4) == 0 {
				run.Clean = true
				run.To = clean
			}
			run.To += run.From + lengthOf(l[i])
			runs[k] = append(runs[k], run)
		}
		if k, n, err := barrel.Judge(l, clean, runs); k != 0 || n != 0 || err != api.OK {
			t.Fatalf("Judge(%v, %d, %v): %d, %d, %d", l, clean, runs, k, n, err)
		}
		if end, bound := must[int](t)(barrel.End(runs)), must[int](t)(barrel.Bound(l, barrels, clean)); end < bound {
			t.Fatalf("%v, %d, %d: %v ends at %d, before %d", l, barrels, clean, runs, end, bound)
		}
	}
}

// P6.10: more barrels never make Bound greater.
func TestMoreBarrels(t *testing.T) {
	r := rand.New(rand.NewPCG(19, 20))
	for range 1000 {
		l, clean := randomBatches(r, api.MaxBatches), r.IntN(101)
		for barrels := 1; barrels < api.MaxBarrels; barrels++ {
			fewer, more := must[int](t)(barrel.Bound(l, barrels, clean)), must[int](t)(barrel.Bound(l, barrels+1, clean))
			if more > fewer {
				t.Fatalf("%v, %d: %d with %d barrels, %d with one more", l, clean, fewer, barrels, more)
			}
		}
	}
}

// P6.11: Stage is 0 for clean hours, then each stage for its hours, in order, and 5 before and behind the run.
func TestStages(t *testing.T) {
	r := rand.New(rand.NewPCG(21, 22))
	for range 1000 {
		l, clean := randomBatches(r, 5), r.IntN(101)
		if len(l) == 0 {
			continue
		}
		run := api.Run{Batch: r.IntN(len(l)), From: r.IntN(1000), Clean: r.IntN(2) == 0}
		want := []int{5}
		if run.Clean {
			want = append(want, slices.Repeat([]int{0}, clean)...)
		}
		for k, hours := range l[run.Batch].Hours {
			want = append(want, slices.Repeat([]int{k + 1}, hours)...)
		}
		run.To = run.From + len(want) - 1
		for n, stage := range append(want, 5, 5) {
			if got := must[int](t)(barrel.Stage(l, run, clean, run.From-1+n)); got != stage {
				t.Fatalf("Stage(%v, %v, %d, %d): %d, want %d", l, run, clean, run.From-1+n, got, stage)
			}
		}
	}
}
