package last_test

import (
	"math"
	"math/rand/v2"
	"reflect"
	"slices"
	"testing"

	"pantoscope/api"
)

// must stops a test if a call that has to succeed does not.
func must[T any](t *testing.T) func(T, api.Errno) T {
	return func(v T, e api.Errno) T {
		t.Helper()
		if e != api.OK {
			t.Fatalf("error %d", e)
		}
		return v
	}
}

// results are the results of a call.
func results(r ...any) []any { return r }

// isError tells whether the results are zero values and this error.
func isError(results []any, err api.Errno) bool {
	end := len(results) - 1
	for _, r := range results[:end] {
		if v := reflect.ValueOf(r); !v.IsZero() && !(v.Kind() == reflect.Slice && v.Len() == 0) {
			return false
		}
	}
	return results[end] == err
}

func head(number int, m ...int) api.Head {
	h := api.Head{Number: number}
	copy(h.M[:], m)
	return h
}

// heads have the Numbers from 1 on, and these bridges.
func heads(bridges ...int) []api.Head {
	var list []api.Head
	for i, m := range bridges {
		list = append(list, head(i+1, m))
	}
	return list
}

// wide is a size that fits every head unbent.
func wide(code int) api.Size {
	s := api.Size{Code: code}
	for i := range s.To {
		s.To[i] = api.MaxMeasure
	}
	return s
}

// size is wide but for the bridge.
func size(code, from, to, bend, total int) api.Size {
	s := wide(code)
	s.From[0], s.To[0], s.Bend[0], s.Total = from, to, bend, total
	return s
}

func manyHeads(n int) []api.Head { return heads(make([]int, n)...) }

func manySizes(n int) []api.Size {
	var list []api.Size
	for i := range n {
		list = append(list, wide(i+1))
	}
	return list
}

// system makes n heads, at most 10, and a size for each set of them that fits these heads alone.
func system(n int, sets ...[]int) ([]api.Size, []api.Head) {
	var people []api.Head
	for j := range n {
		h := head(j+1, 10, 10, 10, 10, 10)
		h.M[j%5] = 20 * (j / 5)
		people = append(people, h)
	}
	var list []api.Size
	for i, set := range sets {
		s := wide(i + 1)
		for j := range n {
			if slices.Contains(set, j) {
				continue
			}
			if j < 5 {
				s.From[j] = 5
			} else {
				s.To[j-5] = 15
			}
		}
		list = append(list, s)
	}
	return list, people
}

func randomSet(r *rand.Rand, n int) []int {
	var set []int
	for j := range n {
		if r.IntN(3) == 0 {
			set = append(set, j)
		}
	}
	return set
}

// randomSystem is a system with sets at random.
func randomSystem(r *rand.Rand, sizes, people int) ([]api.Size, []api.Head) {
	var sets [][]int
	for range sizes {
		sets = append(sets, randomSet(r, people))
	}
	return system(people, sets...)
}

func randomHead(r *rand.Rand, number, most int) api.Head {
	h := api.Head{Number: number}
	for i := range h.M {
		h.M[i] = r.IntN(most + 1)
	}
	return h
}

func randomSize(r *rand.Rand, code, most int) api.Size {
	s := api.Size{Code: code, Total: r.IntN(most)}
	for i := range s.From {
		a, b := r.IntN(most+1), r.IntN(most+1)
		s.From[i], s.To[i], s.Bend[i] = min(a, b), max(a, b), r.IntN(most)
	}
	return s
}

// randomLists are sizes and heads at random, with Codes and Numbers in no order.
func randomLists(r *rand.Rand, sizes, people int) ([]api.Size, []api.Head) {
	most := []int{4, 20, 100}[r.IntN(3)]
	var list []api.Size
	for _, i := range r.Perm(sizes) {
		list = append(list, randomSize(r, i+1, most))
	}
	var hs []api.Head
	for _, i := range r.Perm(people) {
		hs = append(hs, randomHead(r, i+1, most))
	}
	return list, hs
}

// fitsOf tells by the terms of the chapter, from the outside in, whether a size fits a head.
func fitsOf(s api.Size, h api.Head) bool {
	all := 0
	for i, m := range h.M {
		bent := 0
		for m+bent < s.From[i] || m-bent > s.To[i] {
			bent++
		}
		if bent > s.Bend[i] {
			return false
		}
		all += bent
	}
	return all <= s.Total
}

// coversOf tells whether some sizes fit all heads.
func coversOf(sizes []api.Size, people []api.Head, list []int) bool {
	for _, h := range people {
		if !slices.ContainsFunc(list, func(i int) bool { return fitsOf(sizes[i], h) }) {
			return false
		}
	}
	return true
}

// all are the indexes less than n.
func all(n int) []int {
	var list []int
	for i := range n {
		list = append(list, i)
	}
	return list
}

// choices are the lists of k indexes from i to n - 1, in ascending order, number by number.
func choices(i, n, k int) [][]int {
	if k == 0 {
		return [][]int{nil}
	}
	var lists [][]int
	for ; i < n; i++ {
		for _, rest := range choices(i+1, n, k-1) {
			lists = append(lists, append([]int{i}, rest...))
		}
	}
	return lists
}

func badSizes() map[string]api.Size {
	list := map[string]api.Size{"nothing": {}}
	change := func(name string, change func(s *api.Size)) {
		s := wide(1)
		change(&s)
		list[name] = s
	}
	for _, code := range []int{0, -1, 1_000_000_001, math.MinInt, math.MaxInt} {
		change("a code", func(s *api.Size) { s.Code = code })
	}
	for i := range 5 {
		at := " of measure " + string(rune('0'+i))
		change("From below"+at, func(s *api.Size) { s.From[i] = -1 })
		change("From least"+at, func(s *api.Size) { s.From[i] = math.MinInt })
		change("From beyond To"+at, func(s *api.Size) { s.From[i], s.To[i] = 8, 7 })
		change("To beyond"+at, func(s *api.Size) { s.To[i] = api.MaxMeasure + 1 })
		change("To most"+at, func(s *api.Size) { s.To[i] = math.MaxInt })
		change("both beyond"+at, func(s *api.Size) { s.From[i], s.To[i] = 3001, 3001 })
		change("To below"+at, func(s *api.Size) { s.From[i], s.To[i] = 0, -1 })
		change("both below"+at, func(s *api.Size) { s.From[i], s.To[i] = -1, -1 })
		change("Bend below"+at, func(s *api.Size) { s.Bend[i] = -1 })
		change("Bend beyond"+at, func(s *api.Size) { s.Bend[i] = 101 })
		change("Bend least"+at, func(s *api.Size) { s.Bend[i] = math.MinInt })
		change("Bend most"+at, func(s *api.Size) { s.Bend[i] = math.MaxInt })
	}
	change("Total below", func(s *api.Size) { s.Total = -1 })
	change("Total beyond", func(s *api.Size) { s.Total = 501 })
	change("Total least", func(s *api.Size) { s.Total = math.MinInt })
	change("Total most", func(s *api.Size) { s.Total = math.MaxInt })
	return list
}

func badHeads() []api.Head {
	list := []api.Head{{}}
	for _, number := range []int{0, -1, 1_000_000_001, math.MinInt, math.MaxInt} {
		list = append(list, head(number, 1, 2, 3, 4, 5))
	}
	for i := range 5 {
		for _, m := range []int{-1, api.MaxMeasure + 1, math.MinInt, math.MaxInt} {
			h := head(1)
			h.M[i] = m
			list = append(list, h)
		}
	}
	return list
}

// badSizeLists are lists that are not valid; the first ones have a size that is not.
func badSizeLists() [][]api.Size {
	var lists [][]api.Size
	for _, s := range badSizes() {
		lists = append(lists, []api.Size{s}, []api.Size{wide(2), s}, []api.Size{s, wide(2)})
	}
	twice := append(manySizes(19), wide(7))
	return append(lists, []api.Size{wide(3), wide(3)}, []api.Size{wide(3), wide(4), size(3, 1, 2, 3, 4)}, twice, manySizes(21), make([]api.Size, 5000))
}

func badHeadLists() [][]api.Head {
	var lists [][]api.Head
	for _, h := range badHeads() {
		lists = append(lists, []api.Head{h}, []api.Head{head(2), h}, []api.Head{h, head(2)})
	}
	twice := append(manyHeads(39), head(7))
	return append(lists, []api.Head{head(3), head(3)}, []api.Head{head(3), head(4), head(3, 1)}, twice, manyHeads(41), make([]api.Head, 5000))
}
