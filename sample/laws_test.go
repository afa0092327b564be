package sample_test

import (
	"math/rand/v2"
	"slices"
	"strings"
	"testing"

	"pantoscope/api"
	"pantoscope/sample"
)

// P5.8: the Ways add up to all samples; C(n, k) is C(n, n - k), and the sum of the two above it.
func TestSums(t *testing.T) {
	choose := func(n, k int) int { return must[int](t)(sample.Choose(n, k)) }
	for lot := range api.MaxLot + 1 {
		for n := range lot + 1 {
			for bad := 0; bad <= lot; bad += 1 + lot/20 {
				sum := 0
				for _, ways := range must[[]int](t)(sample.Ways(lot, bad, n)) {
					sum += ways
				}
				if sum != choose(lot, n) {
					t.Errorf("Ways(%d, %d, %d) add up to %d", lot, bad, n, sum)
				}
			}
			if choose(lot, n) != choose(lot, lot-n) {
				t.Errorf("%d of %d is not %d of it", n, lot, lot-n)
			}
			if lot > 0 && n > 0 && choose(lot, n) != choose(lot-1, n-1)+choose(lot-1, n) {
				t.Errorf("%d of %d is not the sum", n, lot)
			}
		}
	}
}

// P5.9: a chance lies from 0 to 1, never grows with one more bad piece, and never falls with a greater Accept.
func TestChances(t *testing.T) {
	r := rand.New(rand.NewPCG(15, 16))
	atMost := func(a, b [2]int) bool { return must[int](t)(sample.Compare(a, b)) <= 0 }
	for range 2000 {
		lot := 1 + r.IntN(api.MaxLot)
		p := randomPlan(r, lot)
		before := [2]int{1, 1}
		if none := chanceAt(t, p, lot, 0); none != before {
			t.Fatalf("%v, %d without bad pieces: %v", p, lot, none)
		}
		for bad := range lot + 1 {
			c := chanceAt(t, p, lot, bad)
			if !atMost(c, before) || !atMost([2]int{0, 1}, c) {
				t.Fatalf("%v, %d, %d: %v after %v", p, lot, bad, c, before)
			}
			if more := plan(p.Sample, p.Accept+1); sample.Valid(more) && !atMost(c, chanceAt(t, more, lot, bad)) {
				t.Fatalf("%v, %d, %d: less than %v", more, lot, bad, c)
			}
			before = c
		}
	}
}

// P5.9: a plan is stricter than itself, and stricter than what is less strict than a less strict one.
func TestStricterOrder(t *testing.T) {
	var plans []api.Plan
	for n := 1; n <= 7; n++ {
		for accept := range n {
			plans = append(plans, plan(n, accept))
		}
	}
	for _, lot := range []int{7, 9, 25} {
		is := map[[2]api.Plan]bool{}
		for _, p := range plans {
			for _, q := range plans {
				is[[2]api.Plan{p, q}] = must[bool](t)(sample.Stricter(p, q, lot))
			}
			if !is[[2]api.Plan{p, p}] {
				t.Errorf("%v, %d: not stricter than itself", p, lot)
			}
		}
		for pq, stricter := range is {
			for _, r := range plans {
				if stricter && is[[2]api.Plan{pq[1], r}] && !is[[2]api.Plan{pq[0], r}] {
					t.Errorf("%v, %v, %d: not transitive", pq, r, lot)
				}
			}
		}
	}
}

// P5.10: the first lots have the beginning of the history; no accepted lot tightens normal inspection; and ten accepted
// lots lie between two that are refused under reduced inspection.
func TestHistories(t *testing.T) {
	r := rand.New(rand.NewPCG(17, 18))
	twice := 0
	for range 2000 {
		text := randomLots(r, api.MaxLots)
		text = text[:min(len(text), len(statesOf('N', text))-1)]
		done, state, err := sample.History(example, lots(text))
		if err != api.OK {
			t.Fatalf("%s: error %d", text, err)
		}
		n := r.IntN(len(text) + 1)
		first, behind, err := sample.History(example, lots(text[:n]))
		if err != api.OK || !slices.Equal(first, done[:n]) || n < len(done) && behind != done[n].State || n == len(done) && behind != state {
			t.Fatalf("%s: %v, %d, %d for the first %d lots, but %v", text, first, behind, err, n, done)
		}
		letters := lettersOf(done, state)
		last := -1
		for i, lot := range done {
			if lot.State == api.InspectNormal && lot.Accepted && letters[i+1] != 'N' && letters[i+1] != 'R' {
				t.Fatalf("%s: %s", text, letters)
			}
			if lot.State != api.InspectReduced || lot.Accepted {
				continue
			}
			if last >= 0 {
				twice++
				if strings.Count(text[last:i], accepted) < 10 {
					t.Fatalf("%s: %s", text, letters)
				}
			}
			last = i
		}
	}
	if twice < 200 {
		t.Errorf("only %d lots are refused under reduced inspection behind another one", twice)
	}
}

// P5.11: so many different numbers, in ascending order; Bad of all pieces is the number of bad ones.
func TestDraws(t *testing.T) {
	r := rand.New(rand.NewPCG(19, 20))
	for range 5000 {
		lot := 1 + r.IntN(api.MaxLot)
		n := r.IntN(lot + 1)
		drawn := must[[]int](t)(sample.Draw(1+r.IntN(2147483646), lot, n))
		if len(drawn) != n || !slices.IsSorted(drawn) || len(slices.Compact(slices.Clone(drawn))) != n || n > 0 && (drawn[0] < 0 || drawn[n-1] >= lot) {
			t.Fatalf("%d of %d: %v", n, lot, drawn)
		}
		pieces, count, among := make([]bool, lot), 0, 0
		for i := range pieces {
			pieces[i] = r.IntN(3) == 0
			if pieces[i] {
				count++
			}
			if pieces[i] && slices.Contains(drawn, i) {
				among++
			}
		}
		if bad := must[int](t)(sample.Bad(pieces, drawn)); bad != among {
			t.Fatalf("%v, %v: %d, want %d", pieces, drawn, bad, among)
		}
		if bad := must[int](t)(sample.Bad(pieces, r.Perm(lot))); bad != count {
			t.Fatalf("%v: %d, want %d", pieces, bad, count)
		}
	}
}
