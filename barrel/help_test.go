package barrel_test

import (
	"math"
	"math/rand/v2"
	"reflect"
	"slices"
	"testing"

	"pantoscope/api"
)

// must stops a test if a call that has to succeed does not.
func must[T any](t *testing.T) func(T, api.Errno) T {
	return func(v T, e api.Errno) T {
		t.Helper()
		if e != api.OK {
			t.Fatalf("error %d", e)
		}
		return v
	}
}

// results are the results of a call.
func results(r ...any) []any { return r }

// isError tells whether the results are zero values and this error.
func isError(results []any, err api.Errno) bool {
	end := len(results) - 1
	for _, r := range results[:end] {
		if v := reflect.ValueOf(r); !v.IsZero() && !(v.Kind() == reflect.Slice && v.Len() == 0) {
			return false
		}
	}
	return results[end] == err
}

// batch is a batch of so many hours of each stage.
func batch(number, dark, grain, hours int) api.Batch {
	return api.Batch{Number: number, Dark: dark, Grain: grain, Hours: [4]int{hours, hours, hours, hours}}
}

// shades are batches with some Dark and Grain, with the Numbers from 1 on, and hours that are all different.
func shades(list ...[2]int) []api.Batch {
	var l []api.Batch
	for n, s := range list {
		l = append(l, api.Batch{Number: n + 1, Dark: s[0], Grain: s[1], Hours: [4]int{n, 1, 2, 3}})
	}
	return l
}

// example are the batches of the chapter's example 1.
func example() []api.Batch {
	return shades([2]int{1, 5}, [2]int{2, 3}, [2]int{3, 4}, [2]int{4, 6})
}

// equals are n batches of one Dark and Grain, of 4 hours each.
func equals(n int) []api.Batch {
	var l []api.Batch
	for i := range n {
		l = append(l, batch(i+1, 4, 4, 1))
	}
	return l
}

// cleaned is a run of a barrel that is cleaned first.
func cleaned(index, from, to int) api.Run {
	return api.Run{Batch: index, From: from, To: to, Clean: true}
}

// next is a run without cleaning.
func next(index, from, to int) api.Run {
	return api.Run{Batch: index, From: from, To: to}
}

func all(n int) []int {
	var list []int
	for i := range n {
		list = append(list, i)
	}
	return list
}

// chosen are the indexes of a set.
func chosen(set int) []int {
	var list []int
	for i := 0; set>>i > 0; i++ {
		if set>>i&1 == 1 {
			list = append(list, i)
		}
	}
	return list
}

// randomBatches are at most so many batches with Numbers in no order.
func randomBatches(r *rand.Rand, most int) []api.Batch {
	shades, hours := []int{2, 4, 10}[r.IntN(3)], []int{1, 4, 101}[r.IntN(3)]
	var l []api.Batch
	for _, i := range r.Perm(r.IntN(most + 1)) {
		b := api.Batch{Number: i + 1, Dark: r.IntN(shades), Grain: r.IntN(shades)}
		for k := range b.Hours {
			b.Hours[k] = r.IntN(hours)
		}
		l = append(l, b)
	}
	return l
}

// mayFollow tells by the terms of the chapter whether b may follow a.
func mayFollow(a, b api.Batch) bool {
	return !(b.Dark < a.Dark) && !(b.Grain < a.Grain)
}

func isApart(l []api.Batch, list []int) bool {
	for _, i := range list {
		for _, j := range list {
			if i != j && mayFollow(l[i], l[j]) {
				return false
			}
		}
	}
	return true
}

// isRow tells whether some batches can be brought into an order in which each may follow the one in front of it.
func isRow(l []api.Batch, list []int) bool {
	for _, i := range list {
		for _, j := range list {
			if !mayFollow(l[i], l[j]) && !mayFollow(l[j], l[i]) {
				return false
			}
		}
	}
	return true
}

// fewestOf is the least number of rows, found by going through all of them.
func fewestOf(l []api.Batch) int {
	fewest := make([]int, 1<<len(l))
	for set := 1; set < len(fewest); set++ {
		fewest[set] = len(l)
		for row := set; row > 0; row = (row - 1) & set {
			if isRow(l, chosen(row)) {
				fewest[set] = min(fewest[set], 1+fewest[set&^row])
			}
		}
	}
	return fewest[len(fewest)-1]
}

// mostApart is the greatest number of batches that are apart, found by going through all sets.
func mostApart(l []api.Batch) int {
	most := 0
	for set := range 1 << len(l) {
		if list := chosen(set); isApart(l, list) {
			most = max(most, len(list))
		}
	}
	return most
}

func lengthOf(b api.Batch) int {
	return b.Hours[0] + b.Hours[1] + b.Hours[2] + b.Hours[3]
}

// badBatches are batches that are not valid.
func badBatches() []api.Batch {
	list := []api.Batch{{}}
	add := func(values []int, set func(b *api.Batch, n int)) {
		for _, n := range append(values, -1, math.MinInt, math.MaxInt) {
			b := batch(7, 3, 3, 5)
			set(&b, n)
			list = append(list, b)
		}
	}
	add([]int{0, 1_000_000_001}, func(b *api.Batch, n int) { b.Number = n })
	add([]int{10}, func(b *api.Batch, n int) { b.Dark = n })
	add([]int{10}, func(b *api.Batch, n int) { b.Grain = n })
	for k := range 4 {
		add([]int{101}, func(b *api.Batch, n int) { b.Hours[k] = n })
	}
	return list
}

// badLists are lists that are not valid.
func badLists() [][]api.Batch {
	var lists [][]api.Batch
	for _, b := range badBatches() {
		good := batch(8, 3, 3, 5)
		lists = append(lists, []api.Batch{b}, []api.Batch{good, b}, []api.Batch{b, good})
	}
	return append(lists,
		[]api.Batch{batch(3, 1, 1, 1), batch(3, 1, 1, 1)},
		[]api.Batch{batch(3, 1, 1, 1), batch(4, 1, 1, 1), batch(3, 2, 5, 0)},
		append(equals(39), batch(1, 0, 0, 0)),
		equals(41),
		make([]api.Batch, 5000),
	)
}

// isAscending tells whether each number is greater than the one in front of it.
func isAscending(list []int) bool {
	return slices.IsSorted(list) && len(slices.Compact(slices.Clone(list))) == len(list)
}
