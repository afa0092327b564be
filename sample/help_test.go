package sample_test

import (
	"math"
	"math/big"
	"math/rand/v2"
	"reflect"
	"strings"
	"testing"

	"pantoscope/api"
	"pantoscope/sample"
)

// wild are numbers that no argument may be.
var wild = []int{-1, math.MinInt, math.MaxInt}

// must stops a test if a call that has to succeed does not.
func must[T any](t *testing.T) func(T, api.Errno) T {
	return func(v T, e api.Errno) T {
		t.Helper()
		if e != api.OK {
			t.Fatalf("error %d", e)
		}
		return v
	}
}

// results are the results of a call.
func results(r ...any) []any { return r }

// isError tells whether the results are zero values and this error.
func isError(results []any, err api.Errno) bool {
	end := len(results) - 1
	for _, r := range results[:end] {
		if v := reflect.ValueOf(r); !v.IsZero() && !(v.Kind() == reflect.Slice && v.Len() == 0) {
			return false
		}
	}
	return results[end] == err
}

func plan(sample, accept int) api.Plan { return api.Plan{Sample: sample, Accept: accept} }

// example is the scheme of the chapter's example 1.
var example = api.Scheme{Normal: plan(5, 0), Tight: plan(8, 0), Reduced: plan(3, 0)}

// badPlans are plans that are not valid.
func badPlans() []api.Plan {
	list := []api.Plan{{}, plan(0, 0), plan(61, 0), plan(1, 1), plan(5, 5), plan(60, 60), plan(60, 61), plan(0, -1), plan(61, 60)}
	for _, n := range wild {
		list = append(list, plan(n, 0), plan(5, n), plan(n, n))
	}
	return list
}

// badSchemes are schemes that are not valid.
func badSchemes() []api.Scheme {
	list := []api.Scheme{
		{}, {Normal: plan(5, 1), Tight: plan(5, 2), Reduced: plan(5, 1)}, {Normal: plan(5, 1), Tight: plan(4, 1), Reduced: plan(3, 1)},
		{Normal: plan(5, 1), Tight: plan(5, 1), Reduced: plan(6, 1)},
	}
	for _, p := range badPlans() {
		list = append(list, api.Scheme{Normal: p, Tight: plan(60, 0), Reduced: plan(1, 0)},
			api.Scheme{Normal: plan(5, 0), Tight: p, Reduced: plan(5, 0)}, api.Scheme{Normal: plan(5, 0), Tight: plan(5, 0), Reduced: p})
	}
	return list
}

// lots are numbers of bad pieces of the scheme example: a dot is an accepted lot, an x one that is refused.
func lots(text string) []int {
	var found []int
	for _, c := range text {
		found = append(found, strings.IndexRune(".x", c))
	}
	return found
}

const accepted, refused = ".", "x"

func times(n int, text string) string { return strings.Repeat(text, n) }

// randomLots are up to n lots of which about one of some number is refused.
func randomLots(r *rand.Rand, n int) string {
	rare := []int{2, 3, 6, 12, 25}[r.IntN(5)]
	text := ""
	for range r.IntN(n + 1) {
		if r.IntN(rare) == 0 {
			text += refused
		} else {
			text += accepted
		}
	}
	return text
}

// statesOf goes through lots with counters. It returns N, T, R or S in front of each of them and behind the last one; of
// an inspection that is stopped just the beginning.
func statesOf(first rune, text string) string {
	const never = 100
	state, out := first, ""
	inRow, inAll, sinceRefused := 0, 0, never
	for _, c := range text {
		out += string(state)
		if state == 'S' {
			return out
		}
		entered := state
		if c == '.' {
			inRow++
			sinceRefused++
			switch {
			case state == 'N' && inRow == 10:
				entered = 'R'
			case state == 'T' && inRow == 5:
				entered = 'N'
			}
		} else {
			inRow = 0
			inAll++
			switch {
			case state == 'N' && sinceRefused <= 3:
				entered = 'T'
			case state == 'T' && inAll == 5:
				entered = 'S'
			case state == 'R':
				entered = 'N'
			}
			sinceRefused = 0
		}
		if entered != state {
			state, inRow, inAll, sinceRefused = entered, 0, 0, never
		}
	}
	return out + string(state)
}

// lettersOf are the states of the lots and the one behind the last of them.
func lettersOf(done []api.Inspected, state int) string {
	const letters = "?NTRS"
	text := ""
	for _, lot := range done {
		text += letters[lot.State : lot.State+1]
	}
	return text + letters[state:state+1]
}

// marksOf are the lots, accepted or refused.
func marksOf(done []api.Inspected) string {
	text := ""
	for _, lot := range done {
		text += map[bool]string{true: accepted, false: refused}[lot.Accepted]
	}
	return text
}

// chanceOf goes by the terms of the chapter, with big numbers.
func chanceOf(p api.Plan, lot, bad int) *big.Rat {
	sum := new(big.Int)
	for i := range p.Accept + 1 {
		sum.Add(sum, waysOf(lot, bad, p.Sample, i))
	}
	return new(big.Rat).SetFrac(sum, binomial(lot, p.Sample))
}

func waysOf(lot, bad, sample, i int) *big.Int {
	return new(big.Int).Mul(binomial(bad, i), binomial(lot-bad, sample-i))
}

func binomial(n, k int) *big.Int {
	if k < 0 || k > n {
		return new(big.Int)
	}
	return new(big.Int).Binomial(int64(n), int64(k))
}

func ratio(f [2]int) *big.Rat { return big.NewRat(int64(f[0]), int64(f[1])) }

// chanceAt is Chance as a fraction.
func chanceAt(t *testing.T, p api.Plan, lot, bad int) [2]int {
	t.Helper()
	num, den, err := sample.Chance(p, lot, bad)
	if err != api.OK {
		t.Fatalf("Chance(%v, %d, %d): error %d", p, lot, bad, err)
	}
	return [2]int{num, den}
}

// randomPlan is a plan with a Sample of at most some number.
func randomPlan(r *rand.Rand, most int) api.Plan {
	n := 1 + r.IntN(most)
	return plan(n, r.IntN(n)/(1+r.IntN(4)))
}
