package temple_test

import (
	"math"
	"math/rand/v2"
	"reflect"
	"slices"
	"testing"

	"pantoscope/api"
)

// must stops a test if a call that has to succeed does not.
func must[T any](t *testing.T) func(T, api.Errno) T {
	return func(v T, e api.Errno) T {
		t.Helper()
		if e != api.OK {
			t.Fatalf("error %d", e)
		}
		return v
	}
}

// results are the results of a call.
func results(r ...any) []any { return r }

// isError tells whether the results are zero values and this error.
func isError(results []any, err api.Errno) bool {
	end := len(results) - 1
	for _, r := range results[:end] {
		if v := reflect.ValueOf(r); !v.IsZero() && !(v.Kind() == reflect.Slice && v.Len() == 0) {
			return false
		}
	}
	return results[end] == err
}

func left(number, length, colour int) api.Temple {
	return api.Temple{Number: number, Side: api.SideLeft, Length: length, Colour: colour}
}

func right(number, length, colour int) api.Temple {
	return api.Temple{Number: number, Side: api.SideRight, Length: length, Colour: colour}
}

// sides are left and then right temples of some lengths, of the colour 1, with the Numbers from 1 on.
func sides(lefts, rights []int) []api.Temple {
	var list []api.Temple
	for _, n := range lefts {
		list = append(list, left(len(list)+1, n, 1))
	}
	for _, n := range rights {
		list = append(list, right(len(list)+1, n, 1))
	}
	return list
}

// many are n temples of one colour and length, a left and a right one in turn.
func many(n int) []api.Temple {
	var list []api.Temple
	for i := range n {
		list = append(list, api.Temple{Number: i + 1, Side: 1 + i%2, Length: 1400, Colour: 1})
	}
	return list
}

func all(n int) []int {
	var list []int
	for i := range n {
		list = append(list, i)
	}
	return list
}

// random are n temples with Numbers in no order, with lengths up to some one and some colours.
func random(r *rand.Rand, n, longest, colours int) []api.Temple {
	var list []api.Temple
	for _, i := range r.Perm(n) {
		list = append(list, api.Temple{Number: i + 1, Side: 1 + r.IntN(2), Length: 1 + r.IntN(longest), Colour: 1 + r.IntN(colours)})
	}
	return list
}

// randomTemples are a random list of at most some length and a tolerance that suits it.
func randomTemples(r *rand.Rand, most int) ([]api.Temple, int) {
	longest := []int{5, 30, 2000}[r.IntN(3)]
	return random(r, r.IntN(most+1), longest, 1+r.IntN(3)), r.IntN(min(longest/2+1, 1001))
}

// canPairOf tells by the terms of the chapter whether two temples can be a pair.
func canPairOf(a, b api.Temple, tol int) bool {
	d := a.Length - b.Length
	return a.Side+b.Side == api.SideLeft+api.SideRight && a.Side != b.Side && a.Colour == b.Colour && d*d <= tol*tol
}

// mostOf goes through all pairings.
func mostOf(l []api.Temple, tol int) int {
	if len(l) == 0 {
		return 0
	}
	most := mostOf(l[1:], tol)
	for i, t := range l[1:] {
		if canPairOf(l[0], t, tol) {
			rest := slices.Delete(slices.Clone(l[1:]), i, i+1)
			most = max(most, 1+mostOf(rest, tol))
		}
	}
	return most
}

func isGuardOf(l []api.Temple, tol int, list []int) bool {
	for i := range l {
		for j := range l {
			if canPairOf(l[i], l[j], tol) && !slices.Contains(list, i) && !slices.Contains(list, j) {
				return false
			}
		}
	}
	return true
}

// badTemples are temples that are not valid.
func badTemples() []api.Temple {
	list := []api.Temple{{}}
	add := func(values []int, set func(t *api.Temple, n int)) {
		for _, n := range append(values, math.MinInt, math.MaxInt) {
			t := left(7, 1400, 1)
			set(&t, n)
			list = append(list, t)
		}
	}
	add([]int{0, -1, 1_000_000_001}, func(t *api.Temple, n int) { t.Number = n })
	add([]int{0, -1, 3}, func(t *api.Temple, n int) { t.Side = n })
	add([]int{0, -1, 2001}, func(t *api.Temple, n int) { t.Length = n })
	add([]int{0, -1, 10}, func(t *api.Temple, n int) { t.Colour = n })
	return list
}

// badLists are lists that are not valid.
func badLists() [][]api.Temple {
	var lists [][]api.Temple
	for _, t := range badTemples() {
		good := right(8, 1400, 1)
		lists = append(lists, []api.Temple{t}, []api.Temple{good, t}, []api.Temple{t, good})
	}
	return append(lists,
		[]api.Temple{left(3, 1, 1), left(3, 1, 1)},
		[]api.Temple{left(3, 1, 1), right(3, 2, 2)},
		[]api.Temple{left(3, 1, 1), right(4, 1, 1), left(3, 5, 5)},
		append(many(59), left(1, 1, 1)),
		many(61),
		make([]api.Temple, 5000),
	)
}

func badHinges() []api.Hinge {
	var list []api.Hinge
	add := func(values []int, set func(h *api.Hinge, n int)) {
		for _, n := range append(values, math.MinInt, math.MaxInt) {
			h := api.Hinge{Barrels: 5, Start: 1000, Wear: 50, Tighten: 100}
			set(&h, n)
			list = append(list, h)
		}
	}
	add([]int{-7, -5, -3, -1, 0, 1, 2, 4, 6, 8, 9}, func(h *api.Hinge, n int) { h.Barrels = n })
	add([]int{-1, 0, 10_001}, func(h *api.Hinge, n int) { h.Start = n })
	add([]int{-1, 1001}, func(h *api.Hinge, n int) { h.Wear = n })
	add([]int{-1, 0, 10_001}, func(h *api.Hinge, n int) { h.Tighten = n })
	return append(list, api.Hinge{})
}

func randomHinge(r *rand.Rand) api.Hinge {
	most := []int{10, 1000, 10_000}[r.IntN(3)]
	wear := []int{3, 60, 1001}[r.IntN(3)]
	tighten := 1 + r.IntN(most)/(1+r.IntN(100))
	return api.Hinge{Barrels: 3 + 2*r.IntN(3), Start: 1 + r.IntN(most), Wear: r.IntN(wear), Tighten: tighten}
}
